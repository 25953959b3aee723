"""Heaps and registers."""

from shadeguards.checks import is_index, is_number
from shadeguards.errors import InvalidHeap

WIDEST = 4
OBJECTS_AT_MOST = 40
REGISTERS_AT_MOST = 6


def is_width(thing):
    """Return True if the thing, any value, is a width of heaps."""
    return is_number(thing) and 1 <= thing <= WIDEST


def may_hold(thing, many):
    """Return True if the thing, any value, is None or the index of one of so many objects."""
    return thing is None or is_index(thing, many)


def is_object(thing, width, many):
    """Return True if the thing, any value, has the fields of one of so many objects."""
    if not isinstance(thing, tuple) or len(thing) != width:
        return False
    return all([may_hold(held, many) for held in thing])


def is_heap(thing):
    """Return True if the thing, any value, is a heap."""
    if not isinstance(thing, tuple) or len(thing) != 2:
        return False
    width, objects = thing
    if not is_width(width) or not isinstance(objects, tuple) or len(objects) > OBJECTS_AT_MOST:
        return False
    return all([is_object(fields, width, len(objects)) for fields in objects])


def is_registers(heap, thing):
    """Return True if the thing, any value, is a tuple of registers of this heap."""
    if not isinstance(thing, tuple) or not 1 <= len(thing) <= REGISTERS_AT_MOST:
        return False
    return all([may_hold(held, len(heap[1])) for held in thing])


def make_heap(*objects, width=None):
    """Return the heap of the objects, each given as a tuple or list of its first fields."""
    if not all([isinstance(fields, (tuple, list)) for fields in objects]):
        raise InvalidHeap()
    if width is None:
        width = max([1] + [len(fields) for fields in objects])
    if not is_width(width):
        raise InvalidHeap()
    filled = [tuple(fields) + (None,) * (width - len(fields)) for fields in objects]
    heap = (width, tuple(filled))
    if not is_heap(heap):
        raise InvalidHeap()
    return heap
