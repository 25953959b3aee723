"""The written forms of threads, thread steps and thread runs."""

from shadeguards.errors import ParseError
from shadeguards.formatting import heap_text, registers_text, step_text
from shadeguards.lines import check_one_line, lines_of
from shadeguards.parsing import check_line_of_step, check_lines_of_run
from shadeguards.threadsteps import THREAD_REGISTERS_AT_MOST, THREADS_AT_LEAST, THREADS_AT_MOST, many_thread_numbers
from shadeguards.wordreading import held_of, is_held, read_heap, read_kind, read_step_numbers


def threads_text(threads):
    """Return the written form of threads."""
    return " | ".join([registers_text(registers) for registers in threads])


def thread_step_text(step):
    """Return the written form of a thread step."""
    return step_text(step)


def thread_run_text(run):
    """Return the written form of a thread run."""
    heap, threads, steps = run
    return "\n".join([heap_text(heap), threads_text(threads)] + [thread_step_text(step) for step in steps])


def read_thread_step(words, line, scanning):
    """Return the thread step of this scanning that the words of a line write."""
    kind = read_kind(words, line, 0)
    return read_step_numbers(words, line, 1, kind, many_thread_numbers(kind, scanning))


def read_threads(words, line, many):
    """Return the threads that the words of a line write; they hold some of so many objects."""
    threads = [()]
    for at, word in enumerate(words):
        latest = threads[-1]
        if word == "|" and latest and len(threads) < THREADS_AT_MOST:
            threads.append(())
        elif is_held(word, many) and len(latest) < THREAD_REGISTERS_AT_MOST:
            threads[-1] = latest + (held_of(word),)
        else:
            raise ParseError(line, at)
    if len(threads) < THREADS_AT_LEAST or not threads[-1]:
        raise ParseError(line, len(words))
    return tuple(threads)


def parse_thread_step(text, *, scanning="whole"):
    """Return the thread step of this scanning that the text, any value, writes."""
    lines = lines_of(text)
    step = read_thread_step(lines[0].split(" "), 0, scanning)
    check_one_line(lines)
    return step


def parse_thread_run(text, *, scanning="whole"):
    """Return the thread run of this scanning that the text, any value, writes; its steps need not be possible."""
    lines = lines_of(text)
    heap = read_heap(lines[0].split(" "), 0, 0)
    check_lines_of_run(lines)
    threads = read_threads(lines[1].split(" "), 1, len(heap[1]))
    steps = []
    for line in range(2, len(lines)):
        check_line_of_step(line)
        steps.append(read_thread_step(lines[line].split(" "), line, scanning))
    return (heap, threads, tuple(steps))
