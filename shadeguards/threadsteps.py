"""Thread steps and states of threads: what they are, and in which order thread steps come."""

from shadeguards.heaps import is_heap, may_hold
from shadeguards.states import are_marks
from shadeguards.steps import has_numbers, kind_of, many_numbers, step_rank

# The steps of these kinds name a thread ahead of their other numbers.
KINDS_OF_THREADS = ("load", "store", "move", "clear", "new", "look")
THREADS_AT_LEAST = 2
THREADS_AT_MOST = 4
THREAD_REGISTERS_AT_MOST = 3


def many_thread_numbers(kind, scanning):
    """Return how many numbers stand behind the kind of a thread step of this scanning."""
    many = many_numbers(kind, scanning)
    return many + 1 if kind in KINDS_OF_THREADS else many


def is_thread_step(thing, *, scanning="whole"):
    """Return True if the thing, any value, is a thread step of this scanning by its form."""
    kind = kind_of(thing)
    return kind is not None and has_numbers(thing, many_thread_numbers(kind, scanning))


def thread_step_rank(step):
    """Return the rank of the thread step; thread steps are ordered as their ranks are."""
    return step_rank(step)


def are_so_many_threads(thing):
    """Return True if the thing, any value, is a tuple of as many entries as there may be threads."""
    return isinstance(thing, tuple) and THREADS_AT_LEAST <= len(thing) <= THREADS_AT_MOST


def is_thread(heap, thing):
    """Return True if the thing, any value, is a tuple of the registers of a thread of this heap."""
    if not isinstance(thing, tuple) or not 1 <= len(thing) <= THREAD_REGISTERS_AT_MOST:
        return False
    return all([may_hold(held, len(heap[1])) for held in thing])


def are_threads(heap, thing):
    """Return True if the thing, any value, is a tuple of threads of this heap."""
    return are_so_many_threads(thing) and all([is_thread(heap, one) for one in thing])


def are_looked(thing, many):
    """Return True if the thing, any value, tells for each of so many threads whether it is late."""
    if not isinstance(thing, tuple) or len(thing) != many:
        return False
    return all([isinstance(late, bool) for late in thing])


def is_thread_state(thing, *, scanning="whole"):
    """Return True if the thing, any value, is a state of threads of this scanning."""
    if not isinstance(thing, tuple) or len(thing) != 5:
        return False
    heap, threads, colors, visited, looked = thing
    if not is_heap(heap) or not are_threads(heap, threads):
        return False
    return are_marks(heap, colors, visited, scanning) and are_looked(looked, len(threads))
