"""What a possible step makes of a state and of a phase."""


def placed(items, index, item):
    """Return the tuple of the items with another one at this index."""
    return items[:index] + (item,) + items[index + 1:]


def shaded(colors, x):
    """Return the colors after the object x is shaded; None is no object."""
    if x is None or colors[x] != "white":
        return colors
    return placed(colors, x, "grey")


def all_shaded(colors, objects):
    """Return the colors after these objects, or None in their places, are shaded."""
    for x in objects:
        colors = shaded(colors, x)
    return colors


def after_look(step, state, table):
    """Return the state after a start or a look."""
    heap, registers, colors, visited = state
    return (heap, registers, all_shaded(colors, registers), visited)


def after_load(step, state, table):
    """Return the state after a load."""
    _, r, s, f = step
    heap, registers, colors, visited = state
    source = registers[s]
    loaded = heap[1][source][f]
    if table("load", colors[source]):
        colors = shaded(colors, loaded)
    return (heap, placed(registers, r, loaded), colors, visited)


def after_store(step, state, table):
    """Return the state after a store."""
    _, s, f, t = step
    heap, registers, colors, visited = state
    width, objects = heap
    source = registers[s]
    held = objects[source][f]
    stored = None if t is None else registers[t]
    # The color before the step decides all three shadings, also where the first one shades the source.
    parts = table("store", colors[source])
    if "old" in parts:
        colors = shaded(colors, held)
    if "new" in parts:
        colors = shaded(colors, stored)
    if "source" in parts:
        colors = placed(colors, source, "grey")
        visited = placed(visited, source, ())
    fields = placed(objects[source], f, stored)
    return ((width, placed(objects, source, fields)), registers, colors, visited)


def after_move(step, state, table):
    """Return the state after a move."""
    _, r, t = step
    heap, registers, colors, visited = state
    return (heap, placed(registers, r, registers[t]), colors, visited)


def after_clear(step, state, table):
    """Return the state after a clear."""
    heap, registers, colors, visited = state
    return (heap, placed(registers, step[1], None), colors, visited)


def after_new(step, state, table):
    """Return the state after a new object is made."""
    heap, registers, colors, visited = state
    width, objects = heap
    fields = tuple(range(width)) if table.fresh == "black" else ()
    grown = (width, objects + ((None,) * width,))
    return (grown, placed(registers, step[1], len(objects)), colors + (table.fresh,), visited + (fields,))


def after_scan(step, state, table):
    """Return the state after a scan of a whole object or of one field."""
    heap, registers, colors, visited = state
    width, objects = heap
    x = step[1]
    fields = tuple(range(width)) if len(step) == 2 else step[2:]
    colors = all_shaded(colors, [objects[x][f] for f in fields])
    seen = tuple(sorted(visited[x] + fields))
    if len(seen) == width:
        colors = placed(colors, x, "black")
    return (heap, registers, colors, placed(visited, x, seen))


def after_end(step, state, table):
    """Return the state after the end, which is the one before it."""
    return state


EFFECTS = {
    "start": after_look,
    "load": after_load,
    "store": after_store,
    "move": after_move,
    "clear": after_clear,
    "new": after_new,
    "scan": after_scan,
    "look": after_look,
    "end": after_end,
}


def state_after(step, state, table):
    """Return the state after a step that is possible."""
    effect = EFFECTS[step[0]]
    return effect(step, state, table)


def phase_after(step, phase):
    """Return the phase after a step that is possible."""
    if step[0] == "start":
        return "marking"
    if step[0] == "end":
        return "ended"
    return phase


def greyed_objects(before, after):
    """Return the objects of the colors before that became grey."""
    return tuple([x for x, color in enumerate(before) if color != "grey" and after[x] == "grey"])
