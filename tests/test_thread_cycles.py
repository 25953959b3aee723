"""Points 81 to 83: cycles with threads, what they tell, undoing, trials and equality."""

import unittest

from shadeguards.cycles import Cycle
from shadeguards.errors import InvalidHeap, InvalidState, InvalidStep, InvalidThreads, Mismatch, NothingToUndo
from shadeguards.reaching import reachable
from shadeguards.tables import Table
from shadeguards.threadcycles import ThreadCycle
from tests.test_heaps import NO_HEAPS
from tests.test_thread_steps import RIGHT, WRONG
from tests.threadmodel import some_thread_cycle, some_thread_state, some_pair
from tests.values import ANY, chances, frozen, wander

HEAP = (1, ((1,), (None,)))
THREADS = ((0, None), (None,))
SCANNINGS = ("whole", "fields")
PROPERTIES = ("heap", "threads", "colors", "visited", "looked", "state", "early", "late", "scanning", "phase", "steps", "scans",
              "old", "begun", "reachable", "lost", "freed")
AGAIN = Table(roots="again")


def everything(cycle):
    """All that a cycle tells."""
    return tuple(str(getattr(cycle, name)) for name in PROPERTIES) + (repr(cycle), len(cycle), tuple(cycle.moves()))


def marking(threads=THREADS, **words):
    cycle = ThreadCycle(HEAP, threads, **words)
    cycle.step(("start",), ("load", 0, 1, 0, 0), ("look", 0))
    return cycle


class Constructor(unittest.TestCase):
    def test_class_values(self):
        self.assertEqual((ThreadCycle.MOST_THREADS, ThreadCycle.MOST_REGISTERS, ThreadCycle.MOST_OBJECTS), (4, 3, 40))
        self.assertFalse(issubclass(ThreadCycle, Cycle))

    def test_the_beginning(self):
        heap, threads = (2, ((1, None), (None, None), (0, 2))), ((0, None), (None,), (None, None, 0))
        early, late = Table(("old", "grey")), Table(fresh="white")
        for scanning in SCANNINGS:
            cycle = ThreadCycle(heap, threads, early=early, late=late, scanning=scanning)
            self.assertEqual((cycle.heap, cycle.threads), (heap, threads))
            self.assertEqual((cycle.colors, cycle.visited, cycle.looked), (("white",) * 3, ((),) * 3, (False,) * 3))
            self.assertEqual(cycle.state, (heap, threads, cycle.colors, cycle.visited, cycle.looked))
            self.assertEqual((cycle.early, cycle.late, cycle.scanning), (early, late, scanning))
            self.assertEqual((cycle.phase, cycle.steps, cycle.scans), ("ready", (), 0))
            self.assertEqual((cycle.reachable, cycle.old, cycle.begun, cycle.lost, cycle.freed), ((0, 1), (0, 1), 3, (0, 1), ()))
            self.assertEqual(cycle, ThreadCycle(scanning=scanning, late=late, early=early, threads=threads, heap=heap))

    def test_what_is_left_out(self):
        cycle = ThreadCycle(HEAP, THREADS)
        self.assertEqual((cycle.early, cycle.late, cycle.scanning), (Table(), Table(), "whole"))
        self.assertEqual(cycle, ThreadCycle(HEAP, THREADS, early=None, late=None, scanning="whole"))
        self.assertEqual(ThreadCycle(HEAP, THREADS, early=Table(("old", "grey"))).late, Table())
        self.assertEqual(ThreadCycle(HEAP, THREADS, late=Table(("old", "grey"))).early, Table())

    def test_no_heap(self):
        for thing in NO_HEAPS + ANY:
            before = frozen(thing)
            for threads in (THREADS, (), None, ((9,), "x")):
                for words in ({}, {"early": AGAIN}):
                    with self.assertRaises(InvalidHeap):
                        ThreadCycle(thing, threads, **words)
            self.assertEqual(thing, before)

    def test_numbers_of_threads(self):
        for many in range(7):
            for thread in ((0,), (None, 1), (0, 0, None)):
                threads = (thread,) * many
                if 2 <= many <= 4:
                    self.assertEqual(ThreadCycle(HEAP, threads).threads, threads)
                else:
                    self.check_threads(threads, -1)
            self.check_threads(("x",) * many, 0 if 2 <= many <= 4 else -1)
            self.check_threads([(0,)] * many, -1)

    def check_threads(self, threads, index):
        before = frozen(threads)
        for words in ({}, {"early": AGAIN}, {"scanning": "fields", "late": AGAIN}):
            with self.assertRaises(InvalidThreads) as caught:
                ThreadCycle(HEAP, threads, **words)
            self.assertEqual(caught.exception.index, index)
        self.assertEqual(threads, before)

    def test_no_threads(self):
        for thing in ANY:
            if not (type(thing) is tuple and 2 <= len(thing) <= 4):
                self.check_threads(thing, -1)
        for wrong in [(), (0,) * 4, [0], (2,), (-1,), (True,), (False,), ("0",), (None, 0, ()), ((0,),), (0, [1]), None, 0, "ab", {0: 1}] + ANY:
            if type(wrong) is tuple and wrong in ((0,), (None,)) and type(wrong[0]) is not bool:
                continue
            for at in range(4):
                for many in range(max(2, at + 1), 5):
                    self.check_threads(((0, None),) * at + (wrong,) + ("x",) * (many - at - 1), at)

    def test_mismatch(self):
        for words in ({"early": AGAIN}, {"late": AGAIN}, {"early": AGAIN, "late": Table()}, {"early": Table(), "late": AGAIN}):
            for scanning in SCANNINGS:
                with self.assertRaises(Mismatch):
                    ThreadCycle(HEAP, THREADS, scanning=scanning, **words)
        self.assertEqual(ThreadCycle(HEAP, THREADS, early=AGAIN, late=AGAIN).late, AGAIN)
        # Other differences are none.
        ThreadCycle(HEAP, THREADS, early=Table.full(fresh="white"), late=Table())

    def test_every_width_and_forty_objects(self):
        for width in (1, 2, 3, 4):
            for many in (0, 1, 40):
                held = many - 1 if many else None
                cycle = ThreadCycle((width, ((None,) * width,) * many), ((held,) * 3,) * 4)
                self.assertEqual((len(cycle), cycle.begun, cycle.old), (many, many, (held,) if many else ()))
            with self.assertRaises(InvalidHeap):
                ThreadCycle((width, ((None,) * width,) * 41), ((None,), (None,)))


class At(unittest.TestCase):
    def test_the_beginning(self):
        for chance in chances(100, 141):
            scanning = chance.choice(SCANNINGS)
            state, (early, late) = some_thread_state(chance, scanning), some_pair(chance)
            before = frozen(state)
            cycle = ThreadCycle.at(state, early, late, scanning=scanning)
            self.assertIs(type(cycle), ThreadCycle)
            self.assertEqual(cycle.state, state)
            self.assertEqual((cycle.heap, cycle.threads, cycle.colors, cycle.visited, cycle.looked), state)
            self.assertEqual((cycle.phase, cycle.steps, cycle.scans), ("marking", (), 0))
            held = tuple(x for registers in state[1] for x in registers)
            self.assertEqual(cycle.old, reachable(state[0], held))
            self.assertEqual((cycle.begun, cycle.early, cycle.late, cycle.scanning), (len(state[0][1]), early, late, scanning))
            self.assertEqual(cycle, ThreadCycle.at(scanning=scanning, late=late, early=early, state=state))
            self.assertEqual(state, before)

    def test_the_scanning_that_is_left_out(self):
        self.assertEqual(ThreadCycle.at(RIGHT, Table(), Table()).scanning, "whole")

    def test_no_states(self):
        half = RIGHT[:3] + (((0, 1), (1,), ()),) + RIGHT[4:]
        for scanning in SCANNINGS:
            for thing in WRONG + ANY + ([half] if scanning == "whole" else []):
                before = frozen(thing)
                for early, late in ((Table(), Table()), (Table(), AGAIN), (AGAIN, Table())):
                    with self.assertRaises(InvalidState):
                        ThreadCycle.at(thing, early, late, scanning=scanning)
                self.assertEqual(thing, before)
        self.assertEqual(ThreadCycle.at(half, Table(), Table(), scanning="fields").visited, half[3])

    def test_mismatch(self):
        for early, late in ((Table(), AGAIN), (AGAIN, Table())):
            with self.assertRaises(Mismatch):
                ThreadCycle.at(RIGHT, early, late)


class Properties(unittest.TestCase):
    def test_they_cannot_be_assigned(self):
        cycle, other = marking(), ThreadCycle(HEAP, ((1,), (1,)), early=Table.full(), late=Table.full(), scanning="fields")
        before = everything(cycle)
        for name in PROPERTIES:
            with self.assertRaises(AttributeError):
                setattr(cycle, name, getattr(other, name))
        self.assertEqual(everything(cycle), before)

    def test_always_up_to_date(self):
        phases = set()
        for chance in chances(80, 142):
            scanning = chance.choice(SCANNINGS)
            cycle = some_thread_cycle(chance, scanning)
            old, begun, steps, tables = cycle.reachable, len(cycle), [], (cycle.early, cycle.late)
            for step, _ in wander(chance, cycle, 40):
                steps.append(step)
                self.assertEqual(cycle.steps, tuple(steps))
                self.assertEqual(cycle.scans, len([one for one in steps if one[0] == "scan"]))
                self.assertEqual(cycle.state, (cycle.heap, cycle.threads, cycle.colors, cycle.visited, cycle.looked))
                held = tuple(x for registers in cycle.threads for x in registers)
                self.assertEqual(cycle.reachable, reachable(cycle.heap, held))
                self.assertEqual((cycle.old, cycle.begun, cycle.early, cycle.late, cycle.scanning), (old, begun, *tables, scanning))
                white = tuple(x for x, color in enumerate(cycle.colors) if color == "white")
                self.assertEqual(cycle.lost, tuple(x for x in white if x in cycle.reachable))
                self.assertEqual(cycle.freed, white if cycle.phase == "ended" else ())
                self.assertEqual(len(cycle), len(cycle.colors))
                phases.add(cycle.phase)
        self.assertEqual(phases, {"marking", "ended"})

    def test_results_stay(self):
        cycle = marking()
        kept = [(name, getattr(cycle, name), frozen(getattr(cycle, name))) for name in PROPERTIES if name not in ("early", "late")]
        moves, seen = cycle.moves(), list(cycle.moves())
        told = cycle.step(("scan", 0), ("store", 0, 0, 0, None), ("new", 1, 0))
        cycle.undo(2)
        self.assertEqual(told, ((), (), ()))
        for name, value, copy in kept:
            self.assertEqual(value, copy, name)
        self.assertEqual(list(moves), seen)

    def test_plain_kinds(self):
        cycle = marking(scanning="fields")
        kinds = {"phase": str, "scanning": str, "scans": int, "begun": int, "early": Table, "late": Table}
        for name in PROPERTIES:
            self.assertIs(type(getattr(cycle, name)), kinds.get(name, tuple))
        self.assertEqual({type(item) for name in ("threads", "visited", "steps", "state") for item in getattr(cycle, name)}, {tuple})
        self.assertEqual({type(item) for item in cycle.looked}, {bool})
        self.assertEqual({type(item) for item in cycle.step(("scan", 0, 0), ("look", 1))}, {tuple})


class Undo(unittest.TestCase):
    def test_one_several_and_all(self):
        for chance in chances(60, 143):
            cycle = some_thread_cycle(chance, chance.choice(SCANNINGS), most=3)
            seen = [everything(cycle)]
            for _ in wander(chance, cycle, 20):
                seen.append(everything(cycle))
            steps = cycle.steps
            while len(seen) > 1:
                count = chance.randint(1, len(seen) - 1)
                for wrong in (len(seen), len(seen) + 1, 10 ** 30, 0, -1):
                    with self.assertRaises(NothingToUndo):
                        cycle.undo(wrong)
                undone = cycle.undo() if count == 1 else cycle.undo(count=count)
                self.assertEqual(undone, steps[::-1][:count])
                self.assertIs(type(undone), tuple)
                seen, steps = seen[:-count], steps[:-count]
                self.assertEqual(everything(cycle), seen[-1])
            with self.assertRaises(NothingToUndo) as caught:
                cycle.undo()
            self.assertEqual(caught.exception.count, 1)

    def test_counts_that_are_none(self):
        cycle = marking()
        before = everything(cycle)
        for count in [True, False, 0, -1, 4, "1", "", None, (1,), [1], {}, (), 10 ** 40] + ANY:
            if type(count) is int and count in (1, 2, 3):
                continue
            kept = frozen(count)
            with self.assertRaises(NothingToUndo) as caught:
                cycle.undo(count)
            self.assertIs(caught.exception.count, count)
            self.assertEqual((everything(cycle), count), (before, kept))


class Twins(unittest.TestCase):
    def test_they_share_nothing(self):
        for chance in chances(60, 144):
            cycle = some_thread_cycle(chance, chance.choice(SCANNINGS), most=3)
            first = everything(cycle)
            list(wander(chance, cycle, chance.choice((0, 12))))
            twin, kept = cycle.twin(), everything(cycle)
            self.assertIs(type(twin), ThreadCycle)
            self.assertIsNot(twin, cycle)
            self.assertEqual((everything(twin), twin == cycle), (kept, True))
            list(wander(chance, twin, 12))
            self.assertEqual(everything(cycle), kept)
            went = everything(twin)
            if cycle.steps:
                cycle.undo(len(cycle.steps))
            self.assertEqual((everything(cycle), everything(twin)), (first, went))
            if twin.steps:
                twin.undo(len(twin.steps))
            self.assertEqual(everything(twin), first)

    def test_of_a_cycle_in_which_old_objects_are_gone(self):
        cycle = ThreadCycle(HEAP, THREADS)
        cycle.step(("start",), ("clear", 0, 0), ("new", 1, 0))
        twin = cycle.twin()
        self.assertEqual((twin.old, twin.begun, twin.reachable), ((0, 1), 2, (2,)))
        self.assertEqual(twin.undo(3), (("new", 1, 0), ("clear", 0, 0), ("start",)))
        self.assertEqual(twin, ThreadCycle(HEAP, THREADS))


class Tried(unittest.TestCase):
    def test_the_result(self):
        cycle = marking()
        before, seen = everything(cycle), []

        def deed(given):
            seen.append(given)
            return given.step(("clear", 0, 0), ("new", 0, 0)), given.threads, given.undo(4)

        undone = (("new", 0, 0), ("clear", 0, 0), ("look", 0), ("load", 0, 1, 0, 0))
        self.assertEqual(cycle.tried(deed), (((), ()), ((2, 1), (None,)), undone))
        self.assertEqual(len(seen), 1)
        self.assertIs(seen[0], cycle)
        self.assertEqual(everything(cycle), before)
        self.assertIsNone(cycle.tried(deed=lambda given: None))
        self.assertEqual(cycle.undo(3), (("look", 0), ("load", 0, 1, 0, 0), ("start",)))
        self.assertEqual(cycle, ThreadCycle(HEAP, THREADS))

    def test_its_error(self):
        cycle = marking()
        before = everything(cycle)
        with self.assertRaises(InvalidStep) as caught:
            cycle.tried(lambda given: (given.undo(2), given.step(("clear", 0, 0)), given.step(("clear", 0, 0))))
        self.assertEqual((caught.exception.index, caught.exception.reason), (0, "empty"))
        self.assertEqual(everything(cycle), before)

        def wrong(given):
            given.undo(3)
            raise ZeroDivisionError

        with self.assertRaises(ZeroDivisionError):
            cycle.tried(wrong)
        self.assertEqual(everything(cycle), before)

    def test_one_in_another(self):
        cycle = ThreadCycle(HEAP, THREADS)

        def outer(given):
            given.step(("start",))
            inner = given.tried(lambda one: (one.undo(), one.phase))
            return inner, given.phase, given.tried(lambda one: one.step(("look", 0)))

        self.assertEqual(cycle.tried(outer), (((("start",),), "ready"), "marking", ((0,),)))
        self.assertEqual(cycle, ThreadCycle(HEAP, THREADS))

    def test_chance(self):
        for chance in chances(60, 145):
            cycle = some_thread_cycle(chance, chance.choice(SCANNINGS), most=3)
            list(wander(chance, cycle, chance.choice((0, 10))))
            before, steps = everything(cycle), cycle.steps

            def deed(given):
                list(wander(chance, given, 10))
                if given.steps:
                    given.undo(chance.randint(1, len(given.steps)))
                list(wander(chance, given, 10))

            cycle.tried(deed)
            self.assertEqual(everything(cycle), before)
            if steps:
                self.assertEqual(cycle.undo(len(steps)), steps[::-1])


class Operators(unittest.TestCase):
    def test_in(self):
        cycle = ThreadCycle((1, ((1,), (None,), (None,))), ((None,), (0,)))
        self.assertEqual([x in cycle for x in (-1, 0, 1, 2, 3, 10 ** 30)], [False, True, True, False, False, False])
        for thing in [True, False, None, "0", "", (0,), [0], {}, ()] + ANY:
            if type(thing) is not int:
                self.assertIs(thing in cycle, False)
        cycle.step(("start",), ("clear", 1, 0))
        self.assertIs(0 in cycle, False)
        cycle.undo()
        self.assertIs(0 in cycle, True)

    def test_repr_and_len(self):
        cycle = ThreadCycle((1, ()), ((None,), (None, None), (None,)))
        self.assertEqual((repr(cycle), len(cycle)), ("ThreadCycle(0 objects, 3 threads, ready)", 0))
        cycle.step(("start",), ("new", 1, 1))
        self.assertEqual((repr(cycle), len(cycle)), ("ThreadCycle(1 objects, 3 threads, marking)", 1))
        cycle.step(*[("look", u) for u in range(3)], ("end",))
        self.assertEqual((repr(cycle), len(cycle)), ("ThreadCycle(1 objects, 3 threads, ended)", 1))

    def check(self, one, other, expected):
        for a, b in ((one, other), (other, one)):
            self.assertIs(a == b, expected)
            self.assertIs(a != b, not expected)

    def test_equality(self):
        def state(threads=((0, None), (None,)), colors=("grey", "white"), looked=(True, False), heap=HEAP):
            return heap, threads, colors, ((), ()), looked

        def at(state, early=Table(), late=Table(), **words):
            return ThreadCycle.at(state, early, late, **words)

        one = at(state())
        self.check(one, at(state()), True)
        self.check(one, one.twin(), True)
        others = [
            at(state(), scanning="fields"), at(state(), early=Table(("old", "grey"))), at(state(), late=Table(("old", "grey"))),
            at(state(), early=Table(fresh="grey")), at(state(), AGAIN, AGAIN), at(state(threads=((0, 0), (None,)))),
            at(state(threads=((0,), (None,)))), at(state(threads=((0,), (None,), (None,)), looked=(True, False, False))),
            at(state(colors=("grey", "grey"))), at(state(looked=(False, False))), at(state(heap=(1, ((1,), (1,))))),
        ]
        for at_other, other in enumerate(others):
            self.check(one, other, False)
            self.check(other, others[at_other - 1], False)
        self.check(ThreadCycle(HEAP, THREADS), ThreadCycle(HEAP, THREADS), True)

    def test_equality_of_phases_steps_and_old_objects(self):
        ready = ThreadCycle(HEAP, THREADS)
        marking_one = ThreadCycle.at(ready.state, Table(), Table())
        self.assertEqual((ready.state, ready.old, ready.begun, ready.steps),
                         (marking_one.state, marking_one.old, marking_one.begun, marking_one.steps))
        self.check(ready, marking_one, False)
        one, other = ThreadCycle(HEAP, ((0, 0), (0,))), ThreadCycle(HEAP, ((0, 0), (0,)))
        one.step(("start",), ("move", 0, 0, 1))
        other.step(("start",), ("move", 0, 1, 0))
        self.assertEqual(one.state, other.state)
        self.check(one, other, False)
        one.undo()
        other.undo()
        self.check(one, other, True)
        rest = (("black", "black"), ((0,), (0,)), (True, True))
        heap = (1, ((None,), (None,)))
        one, other = (ThreadCycle.at((heap, threads) + rest, Table(), Table()) for threads in (((0, 1), (1,)), ((1, 1), (1,))))
        one.step(("move", 0, 0, 1))
        other.step(("move", 0, 0, 1))
        self.assertEqual((one.state, one.steps, one.begun), (other.state, other.steps, other.begun))
        self.assertEqual((one.old, other.old), ((0, 1), (1,)))
        self.check(one, other, False)
        one = ThreadCycle((1, ()), ((None,), (None,)))
        one.step(("start",), ("new", 0, 0))
        other = ThreadCycle.at(one.state, Table(), Table())
        self.assertEqual((one.begun, other.begun), (0, 1))
        self.check(one, other, False)

    def test_nothing_else_is_equal(self):
        cycle = ThreadCycle(HEAP, THREADS)
        for thing in ANY + [cycle.state, repr(cycle), ThreadCycle, Cycle(HEAP, 0, None), Table()]:
            self.check(cycle, thing, False)
