"""White paths: how the collector will still come to a white object."""

from shadeguards.checks import is_index
from shadeguards.errors import NoObject


def white_paths(state, among):
    """Return a dict with a shortest white path, over these objects alone, to each one that has such a path."""
    heap, _, colors, visited = state
    objects = heap[1]
    white = [x for x in among if colors[x] == "white"]
    paths = {}
    for g in among:
        if colors[g] == "grey":
            for f, x in enumerate(objects[g]):
                if f not in visited[g] and x in white and x not in paths:
                    paths[x] = (g, f, x)
    latest = list(paths)
    while latest:
        further = []
        for y in latest:
            for x in objects[y]:
                if x in white and x not in paths:
                    paths[x] = paths[y] + (x,)
                    further.append(x)
        latest = further
    return paths


def white_path(cycle, x):
    """Return a shortest white path to the object x, any value, or None if there is none."""
    if not is_index(x, len(cycle)):
        raise NoObject(x)
    paths = white_paths(cycle.state, list(range(len(cycle))))
    return paths.get(x)
