"""A second machine with threads, written from points 76 to 79 in another way, and values for tests of threads."""

from shadeguards.entries import COLORS, ENTRIES
from shadeguards.errors import Mismatch
from shadeguards.tables import Table
from shadeguards.threadcycles import ThreadCycle
from tests.model import Model, lost_objects
from tests.values import some_heap, some_table

THREAD_REASONS = ("thread", "register", "same", "empty", "object", "field", "color", "visited", "full", "look", "grey",
                  "early", "white")
OF_THREADS = ("load", "store", "move", "clear", "new", "look")


class ThreadModel(Model):
    """The machine of point 7, which gets the registers and the table of the thread whose step it does."""

    def __init__(self, state, phase, early, late, scanning):
        heap, threads, colors, visited, looked = state
        Model.__init__(self, (heap, (), colors, visited), phase, early, scanning)
        self.threads = [list(registers) for registers in threads]
        self.looked = list(looked)
        self.early, self.late = early, late

    def thread_state(self):
        heap, _, colors, visited = self.state()
        return heap, tuple(map(tuple, self.threads)), colors, visited, tuple(self.looked)

    def be(self, u):
        self.registers = self.threads[u]
        self.table = self.late if self.looked[u] else self.early

    def held(self):
        return [x for registers in self.threads for x in registers if x is not None]

    def thread_reasons(self, step):
        """All reasons behind "form" and "phase" that apply to a thread step by its form."""
        kind, *numbers = step
        if kind in OF_THREADS:
            if numbers[0] >= len(self.threads):
                return {"thread"}
            if kind == "look":
                return {"look"} if self.looked[numbers[0]] and self.early.roots == "once" else set()
            self.be(numbers[0])
            return self.reasons((kind, *numbers[1:]))
        if kind != "end":
            return self.reasons(step)
        told = {"grey": "grey" in self.colors, "early": False in self.looked,
                "white": self.early.roots == "again" and any(self.colors[x] == "white" for x in self.held())}
        return {reason for reason, applies in told.items() if applies}

    def thread_why(self, step):
        """The first reason that applies, or None, for a step by its form."""
        if (step[0] == "start") != (self.phase == "ready") or self.phase == "ended":
            return "phase"
        found = self.thread_reasons(step)
        return next((reason for reason in THREAD_REASONS if reason in found), None)

    def thread_do(self, step):
        """Perform a step that is possible; tell which of the objects before it became grey."""
        before = list(self.colors)
        kind, *numbers = step
        if kind == "start":
            self.phase = "marking"
        elif kind in OF_THREADS:
            self.be(numbers[0])
            getattr(self, kind)(*numbers[1:])
            if kind == "look":
                self.looked[numbers[0]] = True
        else:
            getattr(self, kind)(*numbers)
        return tuple(x for x, color in enumerate(before) if color != "grey" and self.colors[x] == "grey")

    def all_lost(self):
        """The set of the objects that are reachable and white."""
        self.registers = self.held()
        return lost_objects(self)


def thread_model(heap, threads, early, late, scanning):
    """The machine in the phase "ready"."""
    many = len(heap[1])
    state = (heap, threads, ("white",) * many, ((),) * many, (False,) * len(threads))
    return ThreadModel(state, "ready", early, late, scanning)


def played_threads(early, late, run, scanning):
    """The machine after a thread run, each step of which must be possible."""
    heap, threads, steps = run
    model = thread_model(heap, threads, early, late, scanning)
    for index, step in enumerate(steps):
        if model.thread_why(step) is not None:
            raise AssertionError(f"step {index} of {run}: {model.thread_why(step)}")
        model.thread_do(step)
    return model


def all_thread_steps(scanning, many_threads, slots, width, many):
    """All thread steps by their form with numbers below these, in their order."""
    us, rs, fs, xs = range(many_threads), range(slots), range(width), range(many)
    yield ("start",)
    yield from (("load", u, r, s, f) for u in us for r in rs for s in rs for f in fs)
    yield from (("store", u, s, f, t) for u in us for s in rs for f in fs for t in [None, *rs])
    yield from (("move", u, r, t) for u in us for r in rs for t in rs)
    yield from (("clear", u, r) for u in us for r in rs)
    yield from (("new", u, r) for u in us for r in rs)
    if scanning == "whole":
        yield from (("scan", x) for x in xs)
    else:
        yield from (("scan", x, f) for x in xs for f in fs)
    yield from (("look", u) for u in us)
    yield ("end",)


def nearby_thread_steps(cycle):
    """All thread steps that name what exists, or one more."""
    slots = max(len(registers) for registers in cycle.threads) + 1
    return all_thread_steps(cycle.scanning, len(cycle.threads) + 1, slots, cycle.heap[0] + 1, len(cycle) + 1)


def some_threads(chance, heap, many=None, most=3):
    """Threads of chance for this heap."""
    held = [None, *range(len(heap[1]))]
    return tuple(
        tuple(chance.choice(held) for _ in range(chance.randint(1, most))) for _ in range(many or chance.randint(2, 4))
    )


def some_thread_state(chance, scanning, most=4, width=None):
    """A state of threads of chance."""
    heap = some_heap(chance, most, width)
    colors = tuple(chance.choice(COLORS) for _ in heap[1])
    visited = []
    for color in colors:
        if color == "black":
            visited.append(tuple(range(heap[0])))
        elif color == "grey" and scanning == "fields":
            visited.append(tuple(sorted(chance.sample(range(heap[0]), chance.randrange(heap[0])))))
        else:
            visited.append(())
    threads = some_threads(chance, heap)
    return heap, threads, colors, tuple(visited), tuple(chance.random() < 0.5 for _ in threads)


def some_pair(chance, **words):
    """Two tables of chance with the same roots."""
    early = some_table(chance, **words)
    return early, some_table(chance, roots=early.roots)


def some_thread_cycle(chance, scanning, most=4, width=None):
    """A cycle with threads of chance in the phase "ready"."""
    heap = some_heap(chance, most, width)
    early, late = some_pair(chance)
    return ThreadCycle(heap, some_threads(chance, heap), early=early, late=late, scanning=scanning)


def is_guarded(entries, scanning):
    """Whether a set of entries is guarded, in the words of point 79."""
    black = bool(entries & {("new", "black"), ("source", "black")})
    return black and (scanning == "whole" or bool(entries & {("new", "grey"), ("source", "grey")}))


def is_covered(early, late, fresh):
    """Whether a pair of sets of entries is covered, with this fresh of the late one."""
    grey, white = ("old", "grey"), ("old", "white")
    held = ("load", "white") in late and grey in late and grey in early
    paths = {grey, white} <= early and {grey, white} <= late
    return fresh != "white" and (("load", "grey") in late or held or paths)


def safe_sets(early, late, fresh, roots, scanning):
    """Whether a pair of sets of entries is safe, by the fact of point 79."""
    if not is_guarded(early, scanning):
        return False
    return is_covered(early, late, fresh) or roots == "again" and is_guarded(late, scanning)


def safe_pair(early, late, scanning):
    """Whether a pair of tables is safe, by the fact of point 79."""
    return safe_sets(set(early.entries), set(late.entries), late.fresh, late.roots, scanning)


NAMED_EARLY = [("old", "white"), ("old", "grey"), ("new", "grey"), ("new", "black"), ("source", "grey"), ("source", "black")]
NAMED_LATE = [("load", "white"), ("load", "grey")] + NAMED_EARLY


def likely_pair(chance):
    """Two tables of chance with the same roots, each with few, some or most entries."""
    pair, roots = [], chance.choice(("once", "again"))
    for _ in range(2):
        likely = chance.choice((0.1, 0.3, 0.5, 0.7, 0.9))
        entries = [entry for entry in ENTRIES if chance.random() < likely]
        pair.append(Table(*entries, fresh=chance.choice(COLORS), roots=roots))
    return tuple(pair)


def check_mismatch(case, deed):
    """The deed, called with two tables, must raise Mismatch if their roots are not the same."""
    again = Table(roots="again")
    for early, late in [(Table(), again), (again, Table()), (Table.full(), Table.full(roots="again"))]:
        with case.assertRaises(Mismatch):
            deed(early, late)
