"""The machine with threads: why a thread step is refused, what it makes of a state, and which ones are possible."""

from shadeguards.effects import placed, state_after
from shadeguards.possible import holders, program_moves, scan_moves
from shadeguards.reaching import held_objects
from shadeguards.refusals import program_refusal, scan_refusal
from shadeguards.threadsteps import is_thread_step, thread_step_rank


def step_within(step):
    """Return the step that a step of a thread is with the registers of this thread alone."""
    return step[:1] + step[2:]


def thread_end_refusal(state, roots):
    """Return the first reason that applies to an end, or None."""
    _, threads, colors, _, looked = state
    if "grey" in colors:
        return "grey"
    if not all(looked):
        return "early"
    if roots == "again" and any([colors[x] == "white" for registers in threads for x in held_objects(registers)]):
        return "white"
    return None


def refusal_of_thread(step, state, roots):
    """Return the first reason that applies to a step of a thread, or None."""
    heap, threads, colors, visited, looked = state
    u = step[1]
    if u >= len(threads):
        return "thread"
    if step[0] == "look":
        return "look" if looked[u] and roots == "once" else None
    return program_refusal(step_within(step), (heap, threads[u], colors, visited))


def thread_refusal(step, state, phase, roots, scanning):
    """Return the first reason for which the thread step, any value, is refused, or None if it is possible."""
    if not is_thread_step(step, scanning=scanning):
        return "form"
    kind = step[0]
    if phase != ("ready" if kind == "start" else "marking"):
        return "phase"
    if kind == "start":
        return None
    if kind == "end":
        return thread_end_refusal(state, roots)
    if kind == "scan":
        heap, _, colors, visited, _ = state
        return scan_refusal(step, (heap, (), colors, visited))
    return refusal_of_thread(step, state, roots)


def state_after_thread_step(step, state, early, late):
    """Return the state after a thread step that is possible."""
    heap, threads, colors, visited, looked = state
    if step[0] == "start" or step[0] == "end":
        return state
    if step[0] == "scan":
        heap, _, colors, visited = state_after(step, (heap, (), colors, visited), late)
        return (heap, threads, colors, visited, looked)
    u = step[1]
    table = late if looked[u] else early
    heap, registers, colors, visited = state_after(step_within(step), (heap, threads[u], colors, visited), table)
    if step[0] == "look":
        looked = placed(looked, u, True)
    return (heap, placed(threads, u, registers), colors, visited, looked)


def possible_thread_steps(state, phase, roots, scanning):
    """Return all thread steps that are possible, in order."""
    if phase != "marking":
        return [("start",)] if phase == "ready" else []
    heap, threads, colors, visited, looked = state
    steps = scan_moves(heap, colors, visited, scanning)
    for u, registers in enumerate(threads):
        for step in program_moves(heap, registers, holders(registers)):
            steps.append(step[:1] + (u,) + step[1:])
        if roots == "again" or not looked[u]:
            steps.append(("look", u))
    if thread_end_refusal(state, roots) is None:
        steps.append(("end",))
    return sorted(steps, key=thread_step_rank)
