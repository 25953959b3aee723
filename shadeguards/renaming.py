"""Heaps, registers and steps with other indexes for their objects."""

from shadeguards.checks import is_index


def is_order(heap, thing):
    """Return True if the thing, any value, is an order for the heap."""
    many = len(heap[1])
    if not isinstance(thing, tuple) or len(thing) != many:
        return False
    if not all([is_index(x, many) for x in thing]):
        return False
    return len(set(thing)) == many


def inverse(order):
    """Return the order that renames back."""
    back = [0] * len(order)
    for x, renamed in enumerate(order):
        back[renamed] = x
    return tuple(back)


def renamed_registers(registers, order):
    """Return the registers after renaming."""
    return tuple([None if x is None else order[x] for x in registers])


def renamed_heap(heap, order):
    """Return the heap after renaming."""
    width, objects = heap
    # Fields hold objects as registers do, and stay in their order.
    return (width, tuple([renamed_registers(objects[x], order) for x in inverse(order)]))


def renamed_step(step, order):
    """Return the step after renaming. An object that the order does not name keeps its index."""
    if step[0] != "scan" or step[1] >= len(order):
        return step
    return ("scan", order[step[1]]) + step[2:]
