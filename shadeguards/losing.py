"""Runs that lose an object."""

from shadeguards.runs import run_of
from shadeguards.ways import has_property

# For the roots and the weakness of a table: the heap and the steps of a least run that loses an object.
SHORTEST = {
    ("once", "fresh"): ((1, ()), (("start",), ("new", 0), ("end",))),
    ("again", "fresh"): (
        (1, ((None,),)),
        (("start",), ("scan", 0), ("new", 1), ("store", 0, 0, 1), ("clear", 1), ("end",)),
    ),
    ("once", "near"): (
        (1, ((1,), (None,))),
        (("start",), ("load", 1, 0, 0), ("store", 0, 0, None), ("scan", 0), ("end",)),
    ),
    ("again", "near"): (
        (1, ((1,), (None,))),
        (
            ("start",), ("load", 1, 0, 0), ("store", 0, 0, None), ("scan", 0),
            ("store", 0, 0, 1), ("clear", 1), ("end",),
        ),
    ),
    ("once", "far"): (
        (1, ((1,), (2,), (None,))),
        (
            ("start",), ("load", 1, 0, 0), ("load", 0, 1, 0), ("store", 1, 0, None), ("scan", 0), ("scan", 1), ("end",),
        ),
    ),
    ("again", "far"): (
        (1, ((1,), (2,), (None,))),
        (
            ("start",), ("load", 1, 0, 0), ("load", 0, 1, 0), ("store", 1, 0, None), ("scan", 0), ("scan", 1),
            ("store", 1, 0, 0), ("clear", 0), ("end",),
        ),
    ),
}
# The same for tables that guard black sources, but not the visited fields of grey ones, with the roots "again".
HALF_VISITED = {
    "fresh": (
        (2, ((None, None),)),
        (
            ("start",), ("scan", 0, 0), ("new", 1), ("store", 0, 0, 1), ("clear", 1), ("scan", 0, 1), ("end",),
        ),
    ),
    "near": (
        (2, ((1, None), (None, None))),
        (
            ("start",), ("load", 1, 0, 0), ("store", 0, 0, None), ("scan", 0, 0),
            ("store", 0, 0, 1), ("clear", 1), ("scan", 0, 1), ("end",),
        ),
    ),
    "far": (
        (2, ((1, None), (2, None), (None, None))),
        (
            ("start",), ("load", 1, 0, 0), ("load", 0, 1, 0), ("store", 1, 0, None), ("scan", 0, 0), ("scan", 0, 1),
            ("scan", 1, 0), ("store", 1, 0, 0), ("clear", 0), ("scan", 1, 1), ("end",),
        ),
    ),
}


def weakness(table):
    """Return which white object an unsafe table lets the program keep: a new one, the next one, or one farther on."""
    if table.fresh == "white":
        return "fresh"
    # With ("load", "grey") and another fresh the table would be safe.
    return "far" if ("old", "grey") in table else "near"


def guards_black(table):
    """Return True if no store hides a white object in a black one."""
    return ("new", "black") in table or ("source", "black") in table


def least_length(table, *, registers=2):
    """Return the number of steps of a shortest run with whole scans that loses an object, or None if there is none."""
    if has_property(table, "safe", registers=registers):
        return None
    _, steps = SHORTEST[table.roots, weakness(table)]
    return len(steps)


def losing_run(table, *, registers=2, scanning="whole"):
    """Return a run that loses an object, or None if the table is safe in the setting."""
    if has_property(table, "safe", registers=registers, scanning=scanning):
        return None
    if table.roots == "again" and guards_black(table):
        heap, steps = HALF_VISITED[weakness(table)]
    else:
        heap, steps = SHORTEST[table.roots, weakness(table)]
    return run_of(heap, steps, registers, scanning)
