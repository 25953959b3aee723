"""The invariants of cycles with threads, and the places that offend them."""

from shadeguards.errors import InvalidStep, NoInvariant
from shadeguards.invariants import held_by_grey
from shadeguards.threadcycles import ThreadCycle
from shadeguards.whitepaths import white_paths

THREAD_INVARIANTS = ("strong", "registers", "held", "paths")


def check_thread_invariant(name):
    """Raise an error if the name, any value, is not that of an invariant of cycles with threads."""
    if not isinstance(name, str) or name not in THREAD_INVARIANTS:
        raise NoInvariant(name)


def exposed_objects(cycle, name):
    """Return the objects that offend the invariant in a visited field, and in a register of a late thread."""
    # White paths and what is held by grey objects do not depend on the registers.
    marked = cycle.state[:4]
    everything = list(range(len(cycle)))
    white = [x for x in everything if cycle.colors[x] == "white"]
    if name == "strong":
        return white, []
    if name == "registers":
        return white, white
    covered = held_by_grey(marked) if name == "held" else list(white_paths(marked, everything))
    bare = [x for x in white if x not in covered]
    return bare, bare


def thread_offender(cycle, name):
    """Return the least place that offends the invariant with this name, any value, or None."""
    check_thread_invariant(name)
    in_fields, in_registers = exposed_objects(cycle, name)
    visited = cycle.visited
    for x, fields in enumerate(cycle.heap[1]):
        for f, held in enumerate(fields):
            if f in visited[x] and held in in_fields:
                return ("field", x, f)
    looked = cycle.looked
    for u, registers in enumerate(cycle.threads):
        for r, held in enumerate(registers):
            if looked[u] and held in in_registers:
                return ("register", u, r)
    return None


def thread_holds(cycle, name):
    """Return True if the invariant with this name, any value, holds in the cycle."""
    return thread_offender(cycle, name) is None


def first_thread_broken(early, late, run, name, *, scanning="whole"):
    """Return after how many steps of the run the invariant does not hold for the first time, or None."""
    check_thread_invariant(name)
    heap, threads, steps = run
    cycle = ThreadCycle(heap, threads, early=early, late=late, scanning=scanning)
    broken = None
    for index, step in enumerate(steps):
        reason = cycle.why(step)
        if reason is not None:
            raise InvalidStep(index, reason)
        cycle.step(step)
        if broken is None and not thread_holds(cycle, name):
            broken = index + 1
    return broken
