"""What the words of a line write. The words of a line are numbered from 0; `start` is the first one that is read."""

from shadeguards.changes import CHANGE_WORDS, ROOT_WORDS
from shadeguards.entries import ENTRIES, is_color
from shadeguards.errors import ParseError
from shadeguards.heaps import OBJECTS_AT_MOST, REGISTERS_AT_MOST
from shadeguards.steps import STEP_KINDS
from shadeguards.tabletexts import entry_place

DIGITS_AT_MOST = 30
WIDTHS = ("1:", "2:", "3:", "4:")


def number_of(word):
    """Return the number that the word writes, or None if it writes none."""
    # Without the first test, digits of other scripts would be digits, too.
    if not word.isascii() or not word.isdigit() or len(word) > DIGITS_AT_MOST:
        return None
    if word[0] == "0" and len(word) > 1:
        return None
    return int(word)


def is_held(word, many):
    """Return True if the word writes None or the index of one of so many objects."""
    if word == "-":
        return True
    number = number_of(word)
    return number is not None and number < many


def held_of(word):
    """Return None or the index that the word writes."""
    return None if word == "-" else number_of(word)


def check_there(words, line, at):
    """Raise an error if the line has no word with this index."""
    if at >= len(words):
        raise ParseError(line, len(words))


def check_last(words, line, at):
    """Raise an error if the line goes on behind the word with this index."""
    if len(words) > at + 1:
        raise ParseError(line, at + 1)


def read_number(words, line, at):
    """Return the number that this word writes."""
    check_there(words, line, at)
    number = number_of(words[at])
    if number is None:
        raise ParseError(line, at)
    return number


def read_object(words, line, at, width, many):
    """Return the fields that this word writes, those of one of so many objects."""
    parts = words[at].split(",")
    if len(parts) != width or not all([is_held(part, many) for part in parts]):
        raise ParseError(line, at)
    return tuple([held_of(part) for part in parts])


def read_heap(words, line, start):
    """Return the heap that the words write."""
    check_there(words, line, start)
    if words[start] not in WIDTHS:
        raise ParseError(line, start)
    width = int(words[start][:-1])
    first = start + 1
    check_there(words, line, first)
    if words[first:] == ["none"]:
        return (width, ())
    objects = []
    for at in range(first, len(words)):
        if at - first == OBJECTS_AT_MOST:
            raise ParseError(line, at)
        objects.append(read_object(words, line, at, width, len(words) - first))
    return (width, tuple(objects))


def read_registers(words, line, start, many):
    """Return the registers that the words write; they hold some of so many objects."""
    check_there(words, line, start)
    for at in range(start, len(words)):
        if at - start == REGISTERS_AT_MOST or not is_held(words[at], many):
            raise ParseError(line, at)
    return tuple([held_of(word) for word in words[start:]])


def read_kind(words, line, start):
    """Return the kind of steps that this word writes."""
    check_there(words, line, start)
    if words[start] not in STEP_KINDS:
        raise ParseError(line, start)
    return words[start]


def read_step_numbers(words, line, start, kind, many):
    """Return the step of this kind, behind which the words write so many numbers."""
    step = (kind,)
    for at in range(start, start + many):
        if kind == "store" and at == start + many - 1 and words[at:at + 1] == ["-"]:
            step = step + (None,)
        else:
            step = step + (read_number(words, line, at),)
    check_last(words, line, start + many - 1)
    return step


def read_changed(word, text):
    """Return what stands behind the word of a change, or None if the text does not write it."""
    if word == "fresh":
        return text if is_color(text) else None
    if word == "roots":
        return text if text in ROOT_WORDS else None
    place = entry_place(text)
    return None if place == -1 else ENTRIES[place]


def read_change(words, line, start):
    """Return the change that the words write."""
    check_there(words, line, start)
    word = words[start]
    if word not in CHANGE_WORDS:
        raise ParseError(line, start)
    check_there(words, line, start + 1)
    what = read_changed(word, words[start + 1])
    if what is None:
        raise ParseError(line, start + 1)
    check_last(words, line, start + 1)
    return (word, what)
