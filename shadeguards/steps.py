"""Steps by their form: what they are, in which order they come, and what they name."""

from shadeguards.checks import is_number

STEP_KINDS = ("start", "load", "store", "move", "clear", "new", "scan", "look", "end")
NUMBERS = {"start": 0, "load": 3, "store": 3, "move": 2, "clear": 1, "new": 1, "scan": 1, "look": 0, "end": 0}


def many_numbers(kind, scanning):
    """Return how many numbers stand behind the kind of a step of this scanning."""
    if kind == "scan" and scanning == "fields":
        return 2
    return NUMBERS[kind]


def kind_of(thing):
    """Return the kind of steps with which the thing, any value, begins, or None if it begins with none."""
    if not isinstance(thing, tuple) or len(thing) == 0:
        return None
    kind = thing[0]
    return kind if isinstance(kind, str) and kind in STEP_KINDS else None


def has_numbers(thing, many):
    """Return True if so many numbers stand behind the kind with which the thing begins; a store may end in None."""
    numbers = thing[1:]
    if len(numbers) != many:
        return False
    if thing[0] == "store" and numbers[-1] is None:
        numbers = numbers[:-1]
    return all([is_number(number) and number >= 0 for number in numbers])


def is_step(thing, *, scanning="whole"):
    """Return True if the thing, any value, is a step of this scanning by its form."""
    kind = kind_of(thing)
    return kind is not None and has_numbers(thing, many_numbers(kind, scanning))


def step_rank(step):
    """Return the rank of the step; steps are ordered as their ranks are."""
    numbers = [-1 if number is None else number for number in step[1:]]
    return (STEP_KINDS.index(step[0]),) + tuple(numbers)


def named_registers(step):
    """Return the registers that the step names."""
    kind = step[0]
    if kind == "load" or kind == "move":
        return step[1:3]
    if kind == "store":
        return step[1:2] if step[3] is None else (step[1], step[3])
    if kind == "clear" or kind == "new":
        return step[1:]
    return ()


def needed_registers(step):
    """Return the registers that must hold an object for the step."""
    kind = step[0]
    if kind == "load" or kind == "move":
        return step[2:3]
    if kind == "new":
        return ()
    return named_registers(step)


def named_field(step):
    """Return the field that the step names, or None if it names none."""
    kind = step[0]
    if kind == "load":
        return step[3]
    if kind == "store" or (kind == "scan" and len(step) == 3):
        return step[2]
    return None
