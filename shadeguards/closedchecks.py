"""Whether a tuple of states shows that a heap has no run against a goal."""

from shadeguards.errors import InvalidCertificate
from shadeguards.exploring import check_search_goal, is_bad, next_states, started_state
from shadeguards.reaching import reachable
from shadeguards.states import is_state


def is_akin(state, heap, registers):
    """Return True if the state has the width, as many registers, and as many objects or more."""
    grown, slots, colors, _ = state
    return grown[0] == heap[0] and len(slots) == len(registers) and len(colors) >= len(heap[1])


def are_different_states(things, heap, registers, scanning):
    """Return True if the things, any value, are a tuple of different states that the heap may come to."""
    if not isinstance(things, tuple) or not all([is_state(thing, scanning=scanning) for thing in things]):
        return False
    if not all([is_akin(state, heap, registers) for state in things]):
        return False
    return len(set(things)) == len(things)


def check_closed(table, heap, registers, states, *, goal="safe", scanning="whole", extra=0):
    """Return True if the states, any value, are a closed set for the goal, any value."""
    check_search_goal(goal)
    if not are_different_states(states, heap, registers, scanning):
        raise InvalidCertificate("shape")
    known = set(states)
    if started_state(table, heap, registers) not in known:
        raise InvalidCertificate("start")
    most = len(heap[1]) + extra
    for state in states:
        for _, after in next_states(state, table, scanning, most):
            if after not in known:
                raise InvalidCertificate("step")
    old = reachable(heap, registers)
    if any([is_bad(state, table, goal, old) for state in states]):
        raise InvalidCertificate("bad")
    return True
