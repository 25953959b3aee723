"""Schedules: the steps of a program with the scans of the collector between them."""

from shadeguards.effects import state_after
from shadeguards.errors import InvalidStep
from shadeguards.refusals import end_refusal, refusal

PROGRAM_KINDS = ("load", "store", "move", "clear", "new")


def program_steps(program):
    """Return the steps of all parts of a program, any values."""
    steps = []
    for part in program:
        if isinstance(part, list):
            steps.extend(part)
        else:
            steps.append(part)
    return steps


def is_program_step(thing):
    """Return True if the thing, any value, is a tuple that begins with a kind of program steps."""
    if not isinstance(thing, tuple) or len(thing) == 0:
        return False
    return isinstance(thing[0], str) and thing[0] in PROGRAM_KINDS


def program_reason(step, state, table, scanning):
    """Return the reason for which a step of a program, any value, is refused, or None."""
    if not is_program_step(step):
        return "form"
    return refusal(step, state, "marking", table, scanning)


def next_scan(state, scanning):
    """Return the scan of the least grey object, and of its least field that is not visited."""
    heap, _, colors, visited = state
    x = colors.index("grey")
    if scanning == "whole":
        return ("scan", x)
    ahead = [f for f in range(heap[0]) if f not in visited[x]]
    return ("scan", x, ahead[0])


def scans_ahead(state, table, scanning, most):
    """Return the next scans, up to so many or for None all, and the state after them."""
    scans = []
    while "grey" in state[2] and (most is None or len(scans) < most):
        scan = next_scan(state, scanning)
        scans.append(scan)
        state = state_after(scan, state, table)
    return scans, state


def last_steps(state, table, scanning):
    """Return the steps behind a program that bring the cycle to its end."""
    steps, state = scans_ahead(state, table, scanning, None)
    while end_refusal(state, table) == "white":
        looked = state_after(("look",), state, table)
        scans, state = scans_ahead(looked, table, scanning, None)
        steps = steps + [("look",)] + scans
    return steps + [("end",)]


def schedule(cycle, *program, pace=1):
    """Yield the steps of the schedule of the program, any values, for the cycle, which is not changed."""
    if cycle.phase == "ended":
        raise InvalidStep(-1, "phase")
    state, table, scanning = cycle.state, cycle.table, cycle.SCANNING
    if cycle.phase == "ready":
        yield ("start",)
        state = state_after(("start",), state, table)
    for index, step in enumerate(program_steps(program)):
        reason = program_reason(step, state, table, scanning)
        if reason is not None:
            raise InvalidStep(index, reason)
        yield step
        scans, state = scans_ahead(state_after(step, state, table), table, scanning, pace)
        yield from scans
    yield from last_steps(state, table, scanning)
