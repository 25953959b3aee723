"""The search of one heap for a run that loses an object."""

from shadeguards.errors import TooMany
from shadeguards.exploring import check_search_goal, is_bad, next_states, started_state
from shadeguards.reaching import reachable


def search(table, heap, registers, *, goal="safe", scanning="whole", extra=0, limit=500):
    """Return "found" and the steps of a least run against the goal, any value, or "closed" and all states."""
    check_search_goal(goal)
    old = reachable(heap, registers)
    most = len(heap[1]) + extra
    first = started_state(table, heap, registers)
    # The states that were met, in order, each with the steps that lead to it. The first one is never bad: an object is
    # grey there, or no register holds one.
    paths = {first: (("start",),)}
    latest = [first]
    while latest:
        further = []
        for state in latest:
            for step, after in next_states(state, table, scanning, most):
                if after in paths:
                    continue
                if len(paths) == limit:
                    raise TooMany(limit)
                path = paths[state] + (step,)
                if is_bad(after, table, goal, old):
                    return ("found", path + (("end",),))
                paths[after] = path
                further.append(after)
        latest = further
    return ("closed", tuple(list(paths)))
