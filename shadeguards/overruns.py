"""Runs with more scans than the heap had objects or fields."""

from shadeguards.runs import run_of
from shadeguards.ways import has_property

# The heap of a run for each flaw that lets a cycle go on without end.
HEAPS = {
    "grey again": (1, ((None,),)),
    "field again": (2, ((None, None),)),
    "looked at": (1, ()),
    "handed on": (1, ((None,),)),
    "shading itself": (1, ()),
}


def scan_bound(heap, *, scanning="whole"):
    """Return how many scans a run over this heap has at most if its table is bounded."""
    width, objects = heap
    return len(objects) * width if scanning == "fields" else len(objects)


def flaw(table, registers, scanning):
    """Return what lets a cycle go on without end, if the table is not bounded in the setting."""
    if ("source", "black") in table:
        return "grey again"
    if scanning == "fields" and ("source", "grey") in table:
        return "field again"
    # What is left are new objects that are not black.
    if table.roots == "again":
        return "looked at"
    return "shading itself" if registers == 1 else "handed on"


def round_steps(kind, x):
    """Return the steps of the round x, with one scan; where objects are made, it scans the object x."""
    if kind == "grey again":
        return (("scan", 0), ("store", 0, 0, None))
    if kind == "field again":
        return (("scan", 0, 0), ("store", 0, 0, None))
    if kind == "looked at":
        return (("new", 0), ("look",), ("scan", x))
    if kind == "handed on":
        # The scan makes the new object grey, if it is white, and the next round stores into it.
        return (("new", 1), ("store", 0, 0, 1), ("scan", x), ("move", 0, 1))
    # The object becomes its own field. So if it is white, whichever shading of a white source the table has shades it.
    return (("new", 0), ("store", 0, 0, 0), ("load", 0, 0, 0), ("store", 0, 0, None), ("scan", x))


def longer_run(table, many, *, registers=2, scanning="whole"):
    """Return a run with too many scans, and at least so many, or None if the table is bounded in the setting."""
    if has_property(table, "bounded", registers=registers, scanning=scanning):
        return None
    kind = flaw(table, registers, scanning)
    heap = HEAPS[kind]
    steps = [("start",)]
    for x in range(max(many, scan_bound(heap, scanning=scanning) + 1)):
        steps.extend(round_steps(kind, x))
    return run_of(heap, steps, registers, scanning)


def overrun(table, *, registers=2, scanning="whole"):
    """Return a run with too many scans, or None if the table is bounded in the setting."""
    return longer_run(table, 0, registers=registers, scanning=scanning)
