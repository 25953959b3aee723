"""States of the machine."""

from shadeguards.checks import is_index
from shadeguards.entries import is_color
from shadeguards.heaps import is_heap, is_registers


def are_colors(thing, many):
    """Return True if the thing, any value, has the colors of so many objects."""
    if not isinstance(thing, tuple) or len(thing) != many:
        return False
    return all([is_color(color) for color in thing])


def are_visited(thing, color, width, scanning):
    """Return True if the thing, any value, tells which fields of an object of this color may be visited."""
    if not isinstance(thing, tuple) or not all([is_index(field, width) for field in thing]):
        return False
    if list(thing) != sorted(set(thing)):
        return False
    if color == "black":
        return len(thing) == width
    if color == "grey" and scanning == "fields":
        return len(thing) < width
    return len(thing) == 0


def are_marks(heap, colors, visited, scanning):
    """Return True if these, any values, are colors of the objects of the heap and visited fields that go with them."""
    width, objects = heap
    if not are_colors(colors, len(objects)):
        return False
    if not isinstance(visited, tuple) or len(visited) != len(objects):
        return False
    return all([are_visited(fields, color, width, scanning) for fields, color in zip(visited, colors)])


def is_state(thing, *, scanning="whole"):
    """Return True if the thing, any value, is a state of this scanning."""
    if not isinstance(thing, tuple) or len(thing) != 4:
        return False
    heap, registers, colors, visited = thing
    if not is_heap(heap) or not is_registers(heap, registers):
        return False
    return are_marks(heap, colors, visited, scanning)
