"""What a command of a desk asks for. Its words are numbered from 0; the first one is its name."""

from shadeguards.errors import ParseError, UnknownCommand
from shadeguards.parsing import read_step
from shadeguards.tables import Table
from shadeguards.tabletexts import read_table_words
from shadeguards.ways import GOALS
from shadeguards.wordreading import read_heap, read_number, read_registers

PACE_AT_MOST = 100
LETTERS = "abcdefghijklmnopqrstuvwxyz"
# For each name the least and the greatest number of words; None stands for any number.
SIZES = {
    "table": (2, None),
    "begin": (4, None),
    "step": (2, 5),
    "undo": (1, 2),
    "collect": (2, 2),
    "show": (1, 1),
    "heap": (1, 1),
    "registers": (1, 1),
    "phase": (1, 1),
    "colors": (1, 1),
    "reachable": (1, 1),
    "lost": (1, 1),
    "freed": (1, 1),
    "old": (1, 1),
    "scans": (1, 1),
    "steps": (1, 1),
    "moves": (1, 1),
    "why": (2, 5),
    "holds": (2, 2),
    "judge": (3, 3),
    "check": (4, 4),
    "least": (2, 2),
    "repairs": (3, 3),
    "count": (3, 3),
}


def read_count(words, at):
    """Return the number, at least 1, that this word writes."""
    number = read_number(words, 0, at)
    if number == 0:
        raise ParseError(0, at)
    return number


def read_goal(words, at):
    """Return the goal that this word writes."""
    if words[at] not in GOALS:
        raise ParseError(0, at)
    return words[at]


def read_name(words, at):
    """Return the name that this word writes."""
    if words[at] == "" or not all([letter in LETTERS for letter in words[at]]):
        raise ParseError(0, at)
    return words[at]


def asks_nothing(words, scanning):
    """Return what a command that is a name alone asks for."""
    return ()


def asks_table(words, scanning):
    """Return the table that the words behind the name write."""
    entries, fresh, roots = read_table_words(words, 1)
    return (Table(*entries, fresh=fresh, roots=roots),)


def asks_beginning(words, scanning):
    """Return the heap and the registers that the words behind the name write, with a slash between them."""
    end = words.index("/") if "/" in words else len(words)
    heap = read_heap(words[:end], 0, 1)
    # Where there is no slash, the registers behind it are missing as well.
    return (heap, read_registers(words, 0, end + 1, len(heap[1])))


def asks_step(words, scanning):
    """Return the step that the words behind the name write."""
    return (read_step(words, 0, 1, scanning),)


def asks_undo(words, scanning):
    """Return how many steps are to be taken back."""
    return (1,) if len(words) == 1 else (read_count(words, 1),)


def asks_pace(words, scanning):
    """Return the pace of a collection."""
    pace = read_count(words, 1)
    if pace > PACE_AT_MOST:
        raise ParseError(0, 1)
    return (pace,)


def asks_name(words, scanning):
    """Return the name of an invariant."""
    return (read_name(words, 1),)


def asks_goal(words, scanning):
    """Return a goal and a number of registers."""
    return (read_goal(words, 1), read_count(words, 2))


def asks_check(words, scanning):
    """Return a goal, a number of registers and the name of a way."""
    return (read_goal(words, 1), read_count(words, 2), read_name(words, 3))


def asks_count(words, scanning):
    """Return a number of registers."""
    return (read_count(words, 1),)


READERS = {
    "table": asks_table,
    "begin": asks_beginning,
    "step": asks_step,
    "undo": asks_undo,
    "collect": asks_pace,
    "why": asks_step,
    "holds": asks_name,
    "judge": asks_goal,
    "check": asks_check,
    "least": asks_count,
    "repairs": asks_goal,
    "count": asks_goal,
}


def read_command(command, scanning):
    """Return the name of the command, any value, and the tuple of what its other words ask for."""
    if not isinstance(command, str):
        raise UnknownCommand(command)
    words = command.split(" ")
    name = words[0]
    if name not in SIZES:
        raise UnknownCommand(command)
    least, most = SIZES[name]
    if len(words) < least or (most is not None and len(words) > most):
        raise UnknownCommand(command)
    reader = READERS.get(name, asks_nothing)
    return name, reader(words, scanning)
