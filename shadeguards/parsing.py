"""What texts write: tables, heaps, steps, runs and changes."""

from shadeguards.errors import ParseError
from shadeguards.lines import check_one_line, lines_of
from shadeguards.runchecks import STEPS_AT_MOST
from shadeguards.steps import many_numbers
from shadeguards.tables import Table
from shadeguards.wordreading import read_change, read_heap, read_kind, read_registers, read_step_numbers


def parse_table(text):
    """Return the table that the text, any value, writes."""
    return Table.read(text)


def parse_heap(text):
    """Return the heap that the text, any value, writes."""
    lines = lines_of(text)
    heap = read_heap(lines[0].split(" "), 0, 0)
    check_one_line(lines)
    return heap


def read_step(words, line, start, scanning):
    """Return the step of this scanning that the words of a line from this one on write."""
    kind = read_kind(words, line, start)
    return read_step_numbers(words, line, start + 1, kind, many_numbers(kind, scanning))


def parse_step(text, *, scanning="whole"):
    """Return the step of this scanning that the text, any value, writes."""
    lines = lines_of(text)
    step = read_step(lines[0].split(" "), 0, 0, scanning)
    check_one_line(lines)
    return step


def check_lines_of_run(lines):
    """Raise an error if the second line is missing."""
    if len(lines) == 1:
        raise ParseError(1, 0)


def check_line_of_step(line):
    """Raise an error if there are too many steps before this line of a run."""
    if line - 2 >= STEPS_AT_MOST:
        raise ParseError(line, 0)


def parse_run(text, *, scanning="whole"):
    """Return the run of this scanning that the text, any value, writes; its steps need not be possible."""
    lines = lines_of(text)
    heap = read_heap(lines[0].split(" "), 0, 0)
    check_lines_of_run(lines)
    registers = read_registers(lines[1].split(" "), 1, 0, len(heap[1]))
    steps = []
    for line in range(2, len(lines)):
        check_line_of_step(line)
        steps.append(read_step(lines[line].split(" "), line, 0, scanning))
    return (heap, registers, tuple(steps))


def parse_change(text):
    """Return the change that the text, any value, writes."""
    lines = lines_of(text)
    change = read_change(lines[0].split(" "), 0, 0)
    check_one_line(lines)
    return change
