"""The invariants of cycles, and the places that offend them."""

from shadeguards.countingcycles import cycle_for
from shadeguards.errors import InvalidStep, NoInvariant
from shadeguards.whitepaths import white_paths

INVARIANTS = ("strong", "registers", "held", "paths", "thread", "screened", "snapshot")


def check_invariant(name):
    """Raise an error if the name, any value, is not that of an invariant."""
    if not isinstance(name, str) or name not in INVARIANTS:
        raise NoInvariant(name)


def held_by_grey(state):
    """Return the objects that a field of a grey object holds which is not visited."""
    heap, _, colors, visited = state
    found = []
    for g, fields in enumerate(heap[1]):
        if colors[g] == "grey":
            found = found + [x for f, x in enumerate(fields) if f not in visited[g]]
    return found


def exposed(cycle, name):
    """Return the objects that offend the invariant in a visited field, in a register, and by themselves."""
    state = cycle.state
    everything = list(range(len(cycle)))
    white = [x for x in everything if cycle.colors[x] == "white"]
    white_old = [x for x in cycle.old if x in white]
    if name == "strong":
        return white, [], []
    if name == "registers":
        return white, white, []
    if name == "held":
        held = held_by_grey(state)
        bare = [x for x in white if x not in held]
        return bare, bare, []
    paths = white_paths(state, cycle.old if name == "screened" else everything)
    if name == "screened":
        return white_old, white_old, [x for x in white_old if x not in paths]
    if name == "snapshot":
        return [], [], [x for x in white_old if x not in paths]
    bare = [x for x in white if x not in paths]
    return (white if name == "thread" else bare), bare, []


def offender(cycle, name):
    """Return the least place that offends the invariant with this name, any value, or None."""
    check_invariant(name)
    in_fields, in_registers, alone = exposed(cycle, name)
    visited = cycle.visited
    for x, fields in enumerate(cycle.heap[1]):
        is_new = x >= cycle.begun
        for f, held in enumerate(fields):
            if held in in_fields and (f in visited[x] or (name == "screened" and is_new)):
                return ("field", x, f)
    for r, held in enumerate(cycle.registers):
        if held in in_registers:
            return ("register", r)
    if alone:
        return ("object", alone[0])
    return None


def holds(cycle, name):
    """Return True if the invariant with this name, any value, holds in the cycle."""
    return offender(cycle, name) is None


def first_broken(table, run, name, *, scanning="whole"):
    """Return after how many steps of the run the invariant does not hold for the first time, or None."""
    check_invariant(name)
    heap, registers, steps = run
    cycle = cycle_for(scanning, heap, registers, table=table)
    broken = None
    for index, step in enumerate(steps):
        reason = cycle.why(step)
        if reason is not None:
            raise InvalidStep(index, reason)
        cycle.step(step)
        if broken is None and not holds(cycle, name):
            broken = index + 1
    return broken
