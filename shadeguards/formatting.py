"""The written forms of tables, heaps, registers, steps, runs and changes."""

from shadeguards.tabletexts import entry_text


def held_text(held):
    """Return the written form of None or of a number."""
    return "-" if held is None else str(held)


def table_text(table):
    """Return the written form of a table."""
    return str(table)


def heap_text(heap):
    """Return the written form of a heap."""
    width, objects = heap
    words = [",".join([held_text(held) for held in fields]) for fields in objects]
    return " ".join([f"{width}:"] + (words if words else ["none"]))


def registers_text(registers):
    """Return the written form of registers."""
    return " ".join([held_text(held) for held in registers])


def step_text(step):
    """Return the written form of a step."""
    return " ".join([step[0]] + [held_text(number) for number in step[1:]])


def run_text(run):
    """Return the written form of a run."""
    heap, registers, steps = run
    return "\n".join([heap_text(heap), registers_text(registers)] + [step_text(step) for step in steps])


def change_text(change):
    """Return the written form of a change."""
    word, what = change
    return f"{word} {entry_text(what)}" if word == "add" or word == "remove" else f"{word} {what}"


def numbers_text(numbers):
    """Return the written form of several numbers."""
    if len(numbers) == 0:
        return "-"
    return " ".join([str(number) for number in numbers])
