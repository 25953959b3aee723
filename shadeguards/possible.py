"""Which steps are possible, in their order."""

from shadeguards.heaps import OBJECTS_AT_MOST
from shadeguards.refusals import end_refusal


def holders(registers):
    """Return the registers that hold an object."""
    return [r for r, held in enumerate(registers) if held is not None]


def first_holders(registers):
    """Return for each object that registers hold the first register that holds it."""
    firsts = {}
    for r, held in enumerate(registers):
        if held is not None and held not in firsts:
            firsts[held] = r
    return list(firsts.values())


def program_moves(heap, registers, sources):
    """Return the possible steps of the program that read no registers but these, each of which holds an object."""
    width, objects = heap
    slots = list(range(len(registers)))
    fields = list(range(width))
    stored = [None] + sources
    loads = [("load", r, s, f) for r in slots for s in sources for f in fields]
    stores = [("store", s, f, t) for s in sources for f in fields for t in stored]
    shifts = [("move", r, t) for r in slots for t in sources if r != t]
    clears = [("clear", r) for r in holders(registers)]
    makes = [("new", r) for r in slots if len(objects) < OBJECTS_AT_MOST]
    return loads + stores + shifts + clears + makes


def scan_moves(heap, colors, visited, scanning):
    """Return the possible scans."""
    grey = [x for x, color in enumerate(colors) if color == "grey"]
    if scanning == "fields":
        return [("scan", x, f) for x in grey for f in range(heap[0]) if f not in visited[x]]
    return [("scan", x) for x in grey]


def possible_steps(state, phase, table, scanning):
    """Return all steps that are possible."""
    if phase != "marking":
        return [("start",)] if phase == "ready" else []
    heap, registers, colors, visited = state
    steps = program_moves(heap, registers, holders(registers)) + scan_moves(heap, colors, visited, scanning)
    if table.roots == "again":
        steps.append(("look",))
    if end_refusal(state, table) is None:
        steps.append(("end",))
    return steps
