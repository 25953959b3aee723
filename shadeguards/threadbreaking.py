"""States of threads in which one step breaks an invariant that a pair of tables does not keep."""

from shadeguards.errors import InvalidCertificate
from shadeguards.threadcycles import ThreadCycle
from shadeguards.threadinvariants import check_thread_invariant, thread_holds
from shadeguards.threadneeds import missing_thread_needs
from shadeguards.threadsteps import is_thread_state

# For the first alternative of a need: a heap, threads, colors and visited fields, and the step of the thread 0 that
# breaks each invariant with this need if the table of this thread does not meet it, whatever else the tables have.
MARKED = {
    ("new", "grey"): (
        (2, ((None, None), (None, None))), ((0, 1), (None,)), ("grey", "white"), ((0,), ()), ("store", 0, 0, 0, 1),
    ),
    ("new", "black"): (
        (1, ((None,), (None,))), ((0, 1), (None,)), ("black", "white"), ((0,), ()), ("store", 0, 0, 0, 1),
    ),
    ("old", "white"): (
        (1, ((1,), (2,), (None,))), ((1,), (2,)), ("grey", "white", "white"), ((), (), ()), ("store", 0, 0, 0, None),
    ),
    ("old", "grey"): (
        (1, ((1,), (None,))), ((0,), (1,)), ("grey", "white"), ((), ()), ("store", 0, 0, 0, None),
    ),
    ("fresh", "grey"): (
        (1, ()), ((None,), (None,)), (), (), ("new", 0, 0),
    ),
    ("load", "grey"): (
        (1, ((1,), (None,))), ((0,), (None,)), ("grey", "white"), ((), ()), ("load", 0, 0, 0, 0),
    ),
    ("load", "white"): (
        (1, ((1,), (2,), (None,))), ((1,), (None,)), ("grey", "white", "white"), ((), (), ()), ("load", 0, 0, 0, 0),
    ),
}


def thread_breaking(early, late, name, *, scanning="whole"):
    """Return a state and a step that breaks the invariant with this name, any value, or None if the pair keeps it."""
    missing = missing_thread_needs(early, late, name, scanning=scanning)
    if len(missing) == 0:
        return None
    which, lacking = missing[0][0]
    heap, threads, colors, visited, step = MARKED[lacking]
    # The thread 1 is late in any case: what it holds must not be lost.
    return ((heap, threads, colors, visited, (which == "late", True)), step)


def check_thread_breaking(early, late, name, value, *, scanning="whole"):
    """Return True if the value, any value, is a state and a step that breaks the invariant, by its name, any value."""
    check_thread_invariant(name)
    if not isinstance(value, tuple) or len(value) != 2:
        raise InvalidCertificate("form")
    state, step = value
    if not is_thread_state(state, scanning=scanning):
        raise InvalidCertificate("state")
    cycle = ThreadCycle.at(state, early, late, scanning=scanning)
    if not thread_holds(cycle, name):
        raise InvalidCertificate("before")
    if cycle.why(step) is not None:
        raise InvalidCertificate("step")
    cycle.step(step)
    if thread_holds(cycle, name):
        raise InvalidCertificate("after")
    return True
