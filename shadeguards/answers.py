"""What a desk answers to all commands but the one that begins a new cycle."""

from shadeguards.collecting import collect
from shadeguards.counts import count_tables
from shadeguards.formatting import change_text, heap_text, numbers_text, registers_text
from shadeguards.formatting import run_text, step_text, table_text
from shadeguards.invariants import offender
from shadeguards.judging import judge
from shadeguards.losing import least_length
from shadeguards.repairs import repairs
from shadeguards.runchecks import check_name


def steps_text(steps):
    """Return the text of several steps."""
    return ", ".join([step_text(step) for step in steps])


def answer_table(cycle, table):
    """Assign the table."""
    cycle.change_table(table)
    return "ok"


def answer_step(cycle, step):
    """Perform the step; tell which objects became grey."""
    return numbers_text(cycle.step(step)[0])


def answer_undo(cycle, count):
    """Take back so many steps; tell them."""
    return steps_text(cycle.undo(count))


def answer_collect(cycle, pace):
    """Bring the cycle to its end; tell which objects are freed."""
    return numbers_text(collect(cycle, pace=pace))


def answer_show(cycle):
    """Tell the table."""
    return table_text(cycle.table)


def answer_heap(cycle):
    """Tell the heap."""
    return heap_text(cycle.heap)


def answer_registers(cycle):
    """Tell the registers."""
    return registers_text(cycle.registers)


def answer_phase(cycle):
    """Tell the phase."""
    return cycle.phase


def answer_colors(cycle):
    """Tell the colors of the objects."""
    return " ".join(cycle.colors) if len(cycle) > 0 else "-"


def answer_reachable(cycle):
    """Tell the reachable objects."""
    return numbers_text(cycle.reachable)


def answer_lost(cycle):
    """Tell the objects that are reachable and white."""
    return numbers_text(cycle.lost)


def answer_freed(cycle):
    """Tell the objects that are freed."""
    return numbers_text(cycle.freed)


def answer_old(cycle):
    """Tell the objects that were reachable when the cycle was made."""
    return numbers_text(cycle.old)


def answer_scans(cycle):
    """Tell the number of scans."""
    return str(cycle.scans)


def answer_steps(cycle):
    """Tell the steps."""
    steps = cycle.steps
    return steps_text(steps) if steps else "none"


def answer_moves(cycle):
    """Tell the steps that are possible."""
    steps = cycle.moves()
    return steps_text(steps) if steps else "none"


def answer_why(cycle, step):
    """Tell why the step is refused."""
    reason = cycle.why(step)
    return "possible" if reason is None else reason


def answer_holds(cycle, name):
    """Tell whether the invariant with this name holds, and which place offends it."""
    place = offender(cycle, name)
    if place is None:
        return "yes"
    return " ".join(["no", place[0], numbers_text(place[1:])])


def answer_judge(cycle, goal, many):
    """Tell the verdict over the table, with so many registers."""
    word, shown = judge(cycle.table, goal, registers=many, scanning=cycle.SCANNING)
    if word == "yes":
        return f"yes {shown}"
    return "no: " + run_text(shown).replace("\n", " / ")


def answer_check(cycle, goal, many, name):
    """Check whether a way with this name gives the table the property."""
    check_name(cycle.table, name, goal, registers=many, scanning=cycle.SCANNING)
    return "ok"


def answer_least(cycle, many):
    """Tell the least length of a run that loses an object."""
    length = least_length(cycle.table, registers=many)
    return "-" if length is None else str(length)


def answer_repairs(cycle, goal, many):
    """Tell the least repairs of the table."""
    table, scanning = cycle.table, cycle.SCANNING
    texts = []
    for changes in repairs(table, goal, registers=many, scanning=scanning):
        texts.append(", ".join([change_text(change) for change in changes]) if changes else "-")
    return "; ".join(texts)


def answer_count(cycle, goal, many):
    """Tell how many tables have the property."""
    return str(count_tables(goal, registers=many, scanning=cycle.SCANNING))


ANSWERS = {
    "table": answer_table,
    "step": answer_step,
    "undo": answer_undo,
    "collect": answer_collect,
    "show": answer_show,
    "heap": answer_heap,
    "registers": answer_registers,
    "phase": answer_phase,
    "colors": answer_colors,
    "reachable": answer_reachable,
    "lost": answer_lost,
    "freed": answer_freed,
    "old": answer_old,
    "scans": answer_scans,
    "steps": answer_steps,
    "moves": answer_moves,
    "why": answer_why,
    "holds": answer_holds,
    "judge": answer_judge,
    "check": answer_check,
    "least": answer_least,
    "repairs": answer_repairs,
    "count": answer_count,
}


def answer_to(name, cycle, asked):
    """Return the answer to the command with this name, with the tuple of what it asks for."""
    answer = ANSWERS[name]
    return answer(cycle, *asked)
