"""The states that a search goes through."""

from shadeguards.effects import state_after
from shadeguards.errors import InvalidGoal
from shadeguards.possible import first_holders, program_moves, scan_moves
from shadeguards.reaching import reachable
from shadeguards.refusals import end_refusal

SEARCH_GOALS = ("safe", "snapshot")


def check_search_goal(goal):
    """Raise an error if the goal, any value, is not one that states show."""
    if not isinstance(goal, str) or goal not in SEARCH_GOALS:
        raise InvalidGoal(goal)


def started_state(table, heap, registers):
    """Return the state after the start."""
    many = len(heap[1])
    return state_after(("start",), (heap, registers, ("white",) * many, ((),) * many), table)


def next_states(state, table, scanning, most):
    """Return pairs of steps, in order, and the states after them; no object is made where there are so many.

    Each state to which a step other than the end leads is there, with the least of these steps and perhaps with others.
    """
    heap, registers, colors, visited = state
    # A step that reads another register with the same object leads to the same state, and it comes later.
    steps = program_moves(heap, registers, first_holders(registers)) + scan_moves(heap, colors, visited, scanning)
    if len(colors) >= most:
        steps = [step for step in steps if step[0] != "new"]
    if table.roots == "again":
        steps.append(("look",))
    return [(step, state_after(step, state, table)) for step in steps]


def is_bad(state, table, goal, old):
    """Return True if the end is possible in the state and frees an object that the goal keeps."""
    if end_refusal(state, table) is not None:
        return False
    heap, registers, colors, _ = state
    kept = reachable(heap, registers) if goal == "safe" else old
    return any([colors[x] == "white" for x in kept])
