"""Runs of cycles with threads: those that lose an object, and what a run does, whoever told it."""

from shadeguards.errors import InvalidCertificate, InvalidStep
from shadeguards.heaps import is_heap
from shadeguards.losing import guards_black, losing_run
from shadeguards.pairs import check_same_roots, is_guarded, is_safe_with
from shadeguards.runchecks import STEPS_AT_MOST
from shadeguards.runs import step_of
from shadeguards.threadcycles import ThreadCycle
from shadeguards.threadsteps import KINDS_OF_THREADS, are_threads, is_thread_step

# An early thread hides a white object in a black one, or in a visited field of a grey one.
HIDDEN_EARLY = {
    "black": (
        (1, ((None,), (None,))), ((0, 1), (0, None)),
        (("start",), ("look", 1), ("scan", 0), ("store", 0, 0, 0, 1), ("clear", 0, 1), ("look", 0), ("end",)),
    ),
    "half": (
        (2, ((None, None), (None, None))), ((0, 1), (0, None)),
        (
            ("start",), ("look", 1), ("scan", 0, 0), ("store", 0, 0, 0, 1), ("clear", 0, 1), ("scan", 0, 1),
            ("look", 0), ("end",),
        ),
    ),
}
# A late thread loads a white object, which an early thread then cuts off from a grey one. The late thread keeps it in a
# register, or hides it as above.
CUT_FROM_GREY = {
    "kept": (
        (1, ((1,), (None,))), ((0, None), (0, None)),
        (
            ("start",), ("look", 1), ("load", 1, 1, 0, 0), ("store", 0, 0, 0, None), ("scan", 0), ("look", 0), ("end",),
        ),
    ),
    "black": (
        (1, ((1,), (None,))), ((0, None), (0, None)),
        (
            ("start",), ("look", 1), ("load", 1, 1, 0, 0), ("store", 0, 0, 0, None), ("scan", 0),
            ("store", 1, 0, 0, 1), ("clear", 1, 1), ("look", 0), ("end",),
        ),
    ),
    "half": (
        (2, ((1, None), (None, None))), ((0, None), (0, None)),
        (
            ("start",), ("look", 1), ("load", 1, 1, 0, 0), ("store", 0, 0, 0, None), ("scan", 0, 0),
            ("store", 1, 0, 0, 1), ("clear", 1, 1), ("scan", 0, 1), ("look", 0), ("end",),
        ),
    ),
}
# The same with an object that the early thread cuts off from a white one.
CUT_FROM_WHITE = {
    "kept": (
        (1, ((1,), (2,), (None,))), ((1, None), (0, None)),
        (
            ("start",), ("look", 1), ("load", 1, 1, 0, 0), ("load", 1, 1, 1, 0), ("store", 0, 0, 0, None), ("scan", 0),
            ("scan", 1), ("look", 0), ("end",),
        ),
    ),
    "black": (
        (1, ((1,), (2,), (None,))), ((1, None), (0, None)),
        (
            ("start",), ("look", 1), ("load", 1, 1, 0, 0), ("load", 1, 1, 1, 0), ("store", 0, 0, 0, None), ("scan", 0),
            ("scan", 1), ("store", 1, 0, 0, 1), ("clear", 1, 1), ("look", 0), ("end",),
        ),
    ),
    "half": (
        (2, ((1, None), (2, None), (None, None))), ((1, None), (0, None)),
        (
            ("start",), ("look", 1), ("load", 1, 1, 0, 0), ("load", 1, 1, 1, 0), ("store", 0, 0, 0, None),
            ("scan", 0, 0), ("store", 1, 0, 0, 1), ("clear", 1, 1), ("scan", 0, 1), ("scan", 1, 0), ("scan", 1, 1),
            ("look", 0), ("end",),
        ),
    ),
}


def hiding_place(table):
    """Return where stores by a table that is not guarded can hide a white object."""
    return "half" if guards_black(table) else "black"


def run_of_thread(run):
    """Return the thread run in which the thread 0 does what the run does, behind a look at each thread."""
    heap, registers, steps = run
    done = [("start",), ("look", 0), ("look", 1)]
    for step in steps[1:]:
        done.append(step[:1] + (0,) + step[1:] if step[0] in KINDS_OF_THREADS else step)
    return (heap, (registers, (None, None)), tuple(done))


def cutting_run(early, late):
    """Return the heap, threads and steps of a run that loses what an early thread cuts off and a late one holds."""
    place = "kept" if late.roots == "once" else hiding_place(late)
    return CUT_FROM_WHITE[place] if ("old", "grey") in early else CUT_FROM_GREY[place]


def losing_threads(early, late, *, scanning="whole"):
    """Return a thread run that loses an object, or None if the pair is safe."""
    check_same_roots(early, late)
    if is_safe_with(early, late, scanning):
        return None
    alone = losing_run(late, scanning=scanning)
    if alone is not None:
        return run_of_thread(alone)
    # What is left are pairs whose late table would be safe alone.
    if is_guarded(early, scanning):
        heap, threads, steps = cutting_run(early, late)
    else:
        heap, threads, steps = HIDDEN_EARLY[hiding_place(early)]
    return (heap, threads, tuple([step_of(step, scanning) for step in steps]))


def is_thread_run(thing, scanning):
    """Return True if the thing, any value, is a thread run by its form; its steps need not be possible."""
    if not isinstance(thing, tuple) or len(thing) != 3:
        return False
    heap, threads, steps = thing
    if not is_heap(heap) or not are_threads(heap, threads):
        return False
    if not isinstance(steps, tuple) or len(steps) > STEPS_AT_MOST:
        return False
    return all([is_thread_step(step, scanning=scanning) for step in steps])


def play_threads(early, late, run, *, scanning="whole"):
    """Return a cycle with threads that has performed the steps of the run, any value."""
    check_same_roots(early, late)
    if not is_thread_run(run, scanning):
        raise InvalidCertificate("form")
    heap, threads, steps = run
    cycle = ThreadCycle(heap, threads, early=early, late=late, scanning=scanning)
    try:
        cycle.step(*steps)
    except InvalidStep:
        raise InvalidCertificate("step") from None
    return cycle
