"""Runs after which an object is white that was reachable at first."""

from shadeguards.runs import run_of
from shadeguards.ways import has_property

PAIR = (1, ((1,), (None,)))
CHAIN = (1, ((1,), (2,), (None,)))
# The program cuts off the object behind a grey one.
CUT_NEAR = (("start",), ("store", 0, 0, None), ("scan", 0), ("end",))
# It goes on to a white object and cuts off the one behind that.
CUT_FAR = (("start",), ("load", 0, 0, 0), ("store", 0, 0, None), ("scan", 0), ("scan", 1), ("end",))


def shortest_freeing(table):
    """Return the heap and the steps of a least run that frees an old object, if the table lets it."""
    return (CHAIN, CUT_FAR) if ("old", "grey") in table else (PAIR, CUT_NEAR)


def least_freeing(table):
    """Return the number of steps of a shortest run that frees an old object scanned as a whole, or None."""
    if has_property(table, "snapshot"):
        return None
    _, steps = shortest_freeing(table)
    return len(steps)


def freeing_run(table, *, registers=2, scanning="whole"):
    """Return a run after which an old object is white, or None if the table never lets that happen."""
    if has_property(table, "snapshot", registers=registers, scanning=scanning):
        return None
    heap, steps = shortest_freeing(table)
    return run_of(heap, steps, registers, scanning)
