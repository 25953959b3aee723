"""The states that a search goes through."""

from shadeguards.effects import state_after
from shadeguards.errors import InvalidGoal
from shadeguards.possible import possible_steps
from shadeguards.reaching import reachable
from shadeguards.refusals import end_refusal

SEARCH_GOALS = ("safe", "snapshot")


def check_search_goal(goal):
    """Raise an error if the goal, any value, is not one that states show."""
    if not isinstance(goal, str) or goal not in SEARCH_GOALS:
        raise InvalidGoal(goal)


def started_state(table, heap, registers):
    """Return the state after the start."""
    many = len(heap[1])
    return state_after(("start",), (heap, registers, ("white",) * many, ((),) * many), table)


def next_states(state, table, scanning, most):
    """Return the pairs of each step but the end and the state after it; no object is made where there are so many."""
    barred = ("end",) if len(state[2]) < most else ("end", "new")
    steps = [step for step in possible_steps(state, "marking", table, scanning) if step[0] not in barred]
    return [(step, state_after(step, state, table)) for step in steps]


def is_bad(state, table, goal, old):
    """Return True if the end is possible in the state and frees an object that the goal keeps."""
    if end_refusal(state, table) is not None:
        return False
    heap, registers, colors, _ = state
    kept = reachable(heap, registers) if goal == "safe" else old
    return any([colors[x] == "white" for x in kept])
