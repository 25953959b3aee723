"""What is reachable in a heap, and by which path."""

from shadeguards.checks import is_index
from shadeguards.errors import NoObject


def reach_from(heap, *objects):
    """Return the objects that are reachable from these objects, these included."""
    fields = heap[1]
    waiting = list(objects)
    reached = set()
    while waiting:
        x = waiting.pop()
        if x not in reached:
            reached.add(x)
            for held in fields[x]:
                if held is not None:
                    waiting.append(held)
    return tuple(sorted(reached))


def held_objects(registers):
    """Return the objects that registers hold, one for each register that holds one."""
    return [x for x in registers if x is not None]


def reachable(heap, registers):
    """Return the objects that are reachable from the registers."""
    held = held_objects(registers)
    return reach_from(heap, *held)


def unreachable(heap, registers):
    """Return the objects that are not reachable from the registers."""
    reached = reachable(heap, registers)
    return tuple([x for x in range(len(heap[1])) if x not in reached])


def path_to(heap, registers, x):
    """Return a shortest path to the object x, any value, or None if it is not reachable."""
    fields = heap[1]
    if not is_index(x, len(fields)):
        raise NoObject(x)
    paths = {}
    for r, held in enumerate(registers):
        if held is not None and held not in paths:
            paths[held] = (r,)
    latest = list(paths)
    while latest and x not in paths:
        further = []
        for y in latest:
            for f, held in enumerate(fields[y]):
                if held is not None and held not in paths:
                    paths[held] = paths[y] + (f,)
                    further.append(held)
        latest = further
    return paths.get(x)
