"""Points 84 and 85: the invariants of cycles with threads."""

import unittest

from shadeguards.errors import InvalidHeap, InvalidStep, InvalidThreads, Mismatch, NoInvariant
from shadeguards.tables import Table
from shadeguards.threadcycles import ThreadCycle
from shadeguards.threadinvariants import THREAD_INVARIANTS, first_thread_broken, thread_holds, thread_offender
from tests.test_invariants import path_ends
from tests.threadmodel import some_pair, some_thread_cycle, some_thread_state
from tests.values import ANY, chances, frozen, wander

SCANNINGS = ("whole", "fields")
NAMES = ("strong", "registers", "held", "paths")
NO_NAMES = ["Strong", "strong ", "", "thread", "screened", "snapshot", ("strong",), ["strong"], {"strong": 1}, None, True, 0] + ANY
PAIR = (1, ((1,), (None,)))


def offenders(cycle, name):
    """All places that offend, in order, by a look at each place."""
    width, objects = cycle.heap
    many = range(len(objects))
    white = {x for x in many if cycle.colors[x] == "white"}
    ahead = [(g, f) for g in many for f in range(width) if cycle.colors[g] == "grey" and f not in cycle.visited[g]]
    covered = {"held": {objects[g][f] for g, f in ahead}, "paths": path_ends(cycle, many)}.get(name, set())
    places = []
    for x in many:
        for f in range(width):
            if f in cycle.visited[x] and objects[x][f] in white - covered:
                places.append(("field", x, f))
    for u, registers in enumerate(cycle.threads):
        for r, x in enumerate(registers):
            if name != "strong" and cycle.looked[u] and x in white - covered:
                places.append(("register", u, r))
    return places


def at(heap, threads, colors, looked, half=None):
    """A cycle in the phase "marking"; `half` tells the visited fields of grey objects."""
    visited = [tuple(range(heap[0])) if color == "black" else (half or {}).get(x, ()) for x, color in enumerate(colors)]
    return ThreadCycle.at((heap, threads, colors, tuple(visited), looked), Table(), Table(), scanning="fields")


class Names(unittest.TestCase):
    def test_the_four(self):
        self.assertEqual(THREAD_INVARIANTS, NAMES)
        self.assertIs(type(THREAD_INVARIANTS), tuple)

    def test_names_that_are_none(self):
        cycle = ThreadCycle(PAIR, ((0,), (None,)))
        for name in NO_NAMES:
            before = frozen(name)
            for deed in [lambda: thread_holds(cycle, name), lambda: thread_offender(cycle, name), lambda: thread_holds(name=name, cycle=cycle),
                         lambda: first_thread_broken(Table(), Table(), (PAIR, ((0,), (0,)), ()), name),
                         lambda: first_thread_broken(Table(), Table(roots="again"), (["no heap"], (), (None,)), name)]:
                with self.assertRaises(NoInvariant) as caught:
                    deed()
                self.assertIs(caught.exception.name, name)
            self.assertEqual(name, before)


class Offenders(unittest.TestCase):
    def check(self, cycle, **expected):
        """Each invariant that is named has this least offender, each other one has none."""
        for name in NAMES:
            self.assertEqual(thread_offender(cycle, name), expected.get(name), name)
            self.assertIs(thread_holds(cycle, name), name not in expected)
            self.assertEqual((offenders(cycle, name) + [None])[0], expected.get(name))
            self.assertEqual(thread_offender(name=name, cycle=cycle), expected.get(name))

    def test_registers_of_early_and_late_threads(self):
        heap = (1, ((None,), (None,)))
        self.check(at(heap, ((0,), (1, 0)), ("white", "white"), (False, False)))
        self.check(at(heap, ((0,), (1, 0)), ("white", "white"), (True, False)),
                   **dict.fromkeys(("registers", "held", "paths"), ("register", 0, 0)))
        self.check(at(heap, ((0,), (None, 0)), ("white", "black"), (False, True)),
                   **dict.fromkeys(("registers", "held", "paths"), ("register", 1, 1)))
        self.check(at(heap, ((0,), (1, 1)), ("white", "grey"), (False, True)))

    def test_what_covers_a_register(self):
        heap = (1, ((1,), (2,), (None,)))
        self.check(at(heap, ((1,), (2,)), ("grey", "white", "white"), (True, False)), registers=("register", 0, 0))
        self.check(at(heap, ((1,), (2,)), ("grey", "white", "white"), (False, True)), registers=("register", 1, 0),
                   held=("register", 1, 0))
        self.check(at(heap, ((1,), (2,)), ("grey", "black", "white"), (True, True)), **dict.fromkeys(NAMES, ("field", 1, 0)))

    def test_visited_fields(self):
        heap = (2, ((None, 1), (None, None)))
        self.check(at(heap, ((None,), (None,)), ("black", "white"), (False, False)), **dict.fromkeys(NAMES, ("field", 0, 1)))
        self.check(at(heap, ((None,), (None,)), ("grey", "white"), (False, False), {0: (1,)}), **dict.fromkeys(NAMES, ("field", 0, 1)))
        self.check(at(heap, ((None,), (None,)), ("grey", "white"), (False, False), {0: (0,)}))
        self.check(at(heap, ((None,), (None,)), ("black", "grey"), (False, False)))

    def test_what_covers_a_field(self):
        heap = (1, ((2,), (2,), (3,), (None,)))
        self.check(at(heap, ((None,), (None,)), ("black", "grey", "white", "white"), (True, True)),
                   strong=("field", 0, 0), registers=("field", 0, 0))
        heap = (1, ((3,), (2,), (3,), (None,)))
        self.check(at(heap, ((None,), (None,)), ("black", "grey", "white", "white"), (True, True)),
                   strong=("field", 0, 0), registers=("field", 0, 0), held=("field", 0, 0))

    def test_the_least_place(self):
        # Fields come before registers, and each by its numbers.
        heap = (2, ((None, None), (None, 2), (None, None), (2, 2)))
        cycle = at(heap, ((2, None), (0, 2)), ("black", "black", "white", "black"), (True, True))
        self.check(cycle, **dict.fromkeys(NAMES, ("field", 1, 1)))
        cycle = at((1, ((None,),)), ((None,), (None, 0), (0,)), ("white",), (True, True, True))
        self.check(cycle, **dict.fromkeys(("registers", "held", "paths"), ("register", 1, 1)))

    def test_all_phases(self):
        cycle = ThreadCycle(PAIR, ((0, None), (1,)))
        self.check(cycle)
        cycle.step(("start",))
        self.check(cycle)
        cycle.step(("look", 0), ("load", 0, 1, 0, 0))
        self.check(cycle, registers=("register", 0, 1))
        cycle.step(("store", 0, 0, 0, None))
        self.check(cycle, **dict.fromkeys(("registers", "held", "paths"), ("register", 0, 1)))
        cycle.step(("clear", 1, 0), ("look", 1), ("scan", 0), ("end",))
        self.check(cycle, **dict.fromkeys(("registers", "held", "paths"), ("register", 0, 1)))
        self.assertEqual((cycle.phase, cycle.lost), ("ended", (1,)))

    def test_chance(self):
        found = set()
        for chance in chances(300, 160):
            scanning = chance.choice(SCANNINGS)
            cycle = ThreadCycle.at(some_thread_state(chance, scanning, most=6, width=chance.randint(1, 3)), *some_pair(chance), scanning=scanning)
            before = cycle.twin()
            for name in NAMES:
                expected = (offenders(cycle, name) + [None])[0]
                self.assertEqual(thread_offender(cycle, name), expected)
                self.assertIs(thread_holds(cycle, name), expected is None)
                found.add((name, expected and expected[0]))
            self.assertEqual(cycle, before)
        self.assertEqual(found, {(name, kind) for name in NAMES for kind in ("field", "register", None)} - {("strong", "register")})


class FirstBroken(unittest.TestCase):
    STEPS = (("start",), ("look", 0), ("load", 0, 1, 0, 0), ("store", 0, 0, 0, None), ("scan", 0), ("look", 1), ("end",))
    RUN = (PAIR, ((0, None), (None,)), STEPS)

    def test_least_numbers(self):
        for name, expected in [("strong", None), ("registers", 3), ("held", 4), ("paths", 4)]:
            self.assertEqual(first_thread_broken(Table(), Table(), self.RUN, name), expected)
            self.assertEqual(first_thread_broken(name=name, run=self.RUN, late=Table(), early=Table(), scanning="whole"), expected)
            for many in range(8):
                run = self.RUN[:2] + (self.STEPS[:many],)
                self.assertEqual(first_thread_broken(Table(), Table(), run, name), expected if expected and expected <= many else None)

    def test_scannings(self):
        steps = self.STEPS[:4] + (("scan", 0, 0),) + self.STEPS[5:]
        self.assertEqual(first_thread_broken(Table(), Table(), self.RUN[:2] + (steps,), "held", scanning="fields"), 4)
        with self.assertRaises(InvalidStep) as caught:
            first_thread_broken(Table(), Table(), self.RUN, "held", scanning="fields")
        self.assertEqual((caught.exception.index, caught.exception.reason), (4, "form"))

    def test_which_table(self):
        grey = Table(("load", "grey"))
        self.assertIsNone(first_thread_broken(Table(), grey, self.RUN[:2] + (self.STEPS[:4],), "paths"))
        self.assertEqual(first_thread_broken(grey, Table(), self.RUN, "paths"), 4)

    def test_chance(self):
        found = set()
        for chance in chances(150, 161):
            cycle = some_thread_cycle(chance, chance.choice(SCANNINGS))
            run, name = [cycle.heap, cycle.threads], chance.choice(NAMES)
            expected = None
            for number, _ in enumerate(wander(chance, cycle, 25)):
                if expected is None and offenders(cycle, name):
                    expected = number + 1
            run = (*run, cycle.steps)
            before = frozen(run)
            self.assertEqual(first_thread_broken(cycle.early, cycle.late, run, name, scanning=cycle.scanning), expected)
            self.assertEqual(run, before)
            found.add(expected is None)
        self.assertEqual(found, {True, False})

    def test_refused_later(self):
        for wrong, reason in [(None, "form"), (("look", 0), "look"), (("look", 9), "thread"), (("clear", 1, 0), "empty"), (("start",), "phase"),
                              (("load", 0, 0), "form"), ([], "form")] + [(thing, "form") for thing in ANY]:
            for many in (4, 5):
                steps = self.STEPS[:many] + (wrong, ("never",))
                before = frozen(steps)
                for name in NAMES:
                    with self.assertRaises(InvalidStep) as caught:
                        first_thread_broken(Table(), Table(), self.RUN[:2] + (steps,), name)
                    self.assertEqual((caught.exception.index, caught.exception.reason), (many, reason))
                self.assertEqual(steps, before)

    def test_the_order_of_errors(self):
        other = Table(roots="again")
        cases = [
            (InvalidHeap, {}, other, (["x"], (), (None,))), (InvalidHeap, {}, other, (None, ((0,), (0,)), ())),
            (InvalidThreads, {"index": -1}, other, (PAIR, ((0,),), (None,))), (InvalidThreads, {"index": -1}, other, (PAIR, [(0,), (0,)], (None,))),
            (InvalidThreads, {"index": 1}, other, (PAIR, ((0,), (2,), ()), (None,))), (Mismatch, {}, other, (PAIR, ((0,), (1,)), (None,))),
            (InvalidStep, {"index": 0, "reason": "form"}, Table(), (PAIR, ((0,), (1,)), (None,))),
            (InvalidStep, {"index": 0, "reason": "phase"}, Table(), (PAIR, ((0,), (1,)), (("look", 0),))),
        ]
        for error, told, late, run in cases:
            before = frozen(run)
            for name in NAMES:
                with self.assertRaises(error) as caught:
                    first_thread_broken(Table(), late, run, name)
                self.assertEqual(vars(caught.exception), told)
            self.assertEqual(run, before)

    def test_any_value_as_a_heap_and_threads(self):
        for thing in ANY:
            for run, error in [((thing, ((0,), (1,)), ()), InvalidHeap), ((PAIR, thing, ()), InvalidThreads),
                               ((PAIR, ((0,), thing, (1,)), ()), InvalidThreads)]:
                if error is InvalidThreads and thing in ((0,), (None,)) and type(thing) is tuple and type(thing[0]) is not bool and run[1] != thing:
                    continue
                with self.assertRaises(error):
                    first_thread_broken(Table(), Table(), run, "strong")
