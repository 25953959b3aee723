"""Points 26 to 29, 32, 33 and the class of `cycle_for`: cycles, what they tell, undoing and equality."""

import unittest

from shadeguards.countingcycles import CountingCycle, CountingFieldCycle, cycle_for
from shadeguards.cycles import Cycle
from shadeguards.errors import InvalidHeap, InvalidRegisters, InvalidStep, NothingToUndo, Started
from shadeguards.fieldcycles import FieldCycle
from shadeguards.reaching import reachable
from shadeguards.tables import Table
from tests.test_heaps import NO_HEAPS
from tests.values import ANY, chances, frozen, some_heap, some_registers, some_table, wander

ALL = (Cycle, FieldCycle, CountingCycle, CountingFieldCycle)
HEAP = (1, ((1,), (None,)))
PROPERTIES = ("heap", "registers", "colors", "visited", "state", "phase", "steps", "scans", "reachable", "old", "begun",
              "lost", "freed")


def everything(cycle):
    """All that a cycle tells."""
    return tuple(getattr(cycle, name) for name in PROPERTIES) + (str(cycle.table), repr(cycle), len(cycle))


class Constructor(unittest.TestCase):
    def test_class_values(self):
        scannings = {Cycle: "whole", FieldCycle: "fields", CountingCycle: "whole", CountingFieldCycle: "fields"}
        for made, scanning in scannings.items():
            self.assertEqual((made.SCANNING, made.MOST_OBJECTS, made.MOST_REGISTERS), (scanning, 40, 6))

    def test_subclasses(self):
        self.assertTrue(issubclass(FieldCycle, Cycle))
        self.assertTrue(issubclass(CountingCycle, Cycle))
        self.assertTrue(issubclass(CountingFieldCycle, CountingCycle) and issubclass(CountingFieldCycle, FieldCycle))
        self.assertFalse(issubclass(FieldCycle, CountingCycle) or issubclass(CountingCycle, FieldCycle))

    def test_the_beginning(self):
        for made in ALL:
            cycle = made((2, ((1, None), (None, None), (0, 2))), 0, None)
            self.assertEqual(cycle.heap, (2, ((1, None), (None, None), (0, 2))))
            self.assertEqual(cycle.registers, (0, None))
            self.assertEqual((cycle.colors, cycle.visited), (("white",) * 3, ((),) * 3))
            self.assertEqual(cycle.state, (cycle.heap, cycle.registers, cycle.colors, cycle.visited))
            self.assertEqual((cycle.phase, cycle.steps, cycle.scans), ("ready", (), 0))
            self.assertEqual((cycle.reachable, cycle.old, cycle.begun), ((0, 1), (0, 1), 3))
            self.assertEqual((cycle.lost, cycle.freed, cycle.table), ((0, 1), (), Table()))
            self.assertEqual(cycle, made(cycle.heap, 0, None, table=None))

    def test_table(self):
        for made in ALL:
            table = Table(("old", "grey"), fresh="grey")
            self.assertEqual(made(HEAP, 0, table=table).table, table)

    def test_numbers_of_registers(self):
        for made in ALL:
            for many in range(1, 7):
                self.assertEqual(made(HEAP, *[1] * many).registers, (1,) * many)
            for many in (0, 7, 8, 40):
                for held in (1, "x"):
                    with self.assertRaises(InvalidRegisters) as caught:
                        made(HEAP, *[held] * many)
                    self.assertEqual(caught.exception.index, -1)

    def test_no_heap(self):
        for made in ALL:
            for thing in NO_HEAPS + ANY:
                before = frozen(thing)
                for registers in ((), (0,), (None,) * 7, ("x",)):
                    with self.assertRaises(InvalidHeap):
                        made(thing, *registers)
                self.assertEqual(thing, before)

    def test_no_registers(self):
        for made in ALL:
            for thing in [2, -1, True, False, "0", (), (0,), [], [0], {}, 10 ** 30] + ANY:
                if thing is None or type(thing) is int and thing in (0, 1):
                    continue
                before = frozen(thing)
                for at in range(6):
                    with self.assertRaises(InvalidRegisters) as caught:
                        made(HEAP, *[0, None, 1, 1, None][:at], thing, *["x"] * (5 - at))
                    self.assertEqual(caught.exception.index, at)
                self.assertEqual(thing, before)

    def test_every_width_and_forty_objects(self):
        for made in ALL:
            for width in (1, 2, 3, 4):
                for many in (0, 1, 40):
                    cycle = made((width, ((None,) * width,) * many), many - 1 if many else None)
                    self.assertEqual((len(cycle), cycle.begun), (many, many))
                with self.assertRaises(InvalidHeap):
                    made((width, ((None,) * width,) * 41), None)

    def test_cycle_for(self):
        table = Table(("new", "grey"))
        classes = {("whole", False): Cycle, ("fields", False): FieldCycle, ("whole", True): CountingCycle,
                   ("fields", True): CountingFieldCycle}
        for (scanning, counting), made in classes.items():
            cycle = cycle_for(scanning, HEAP, (0, None), table=table, counting=counting)
            self.assertIs(type(cycle), made)
            self.assertEqual(cycle, made(HEAP, 0, None, table=table))
            cycle = cycle_for(counting=counting, registers=(1,), heap=HEAP, scanning=scanning)
            self.assertIs(type(cycle), made)
            self.assertEqual(cycle, made(HEAP, 1))
            with self.assertRaises(InvalidHeap):
                cycle_for(scanning, ["x"], (), counting=counting)
            for registers, index in [((), -1), ((0,) * 7, -1), ((0, True), 1), (([], 0), 0), ((None, 2), 1)]:
                with self.assertRaises(InvalidRegisters) as caught:
                    cycle_for(scanning, HEAP, registers, counting=counting)
                self.assertEqual(caught.exception.index, index)
        self.assertIs(type(cycle_for("whole", HEAP, (0,))), Cycle)
        self.assertIs(type(cycle_for("fields", HEAP, (0,))), FieldCycle)


class Properties(unittest.TestCase):
    def test_they_cannot_be_assigned(self):
        for made in ALL:
            cycle = made(HEAP, 0, None)
            before = everything(cycle)
            for name in PROPERTIES + (("fired",) if "Counting" in made.__name__ else ()):
                with self.assertRaises(AttributeError):
                    setattr(cycle, name, getattr(made(HEAP, 1), name))
            self.assertEqual(everything(cycle), before)

    def test_always_up_to_date(self):
        for chance in chances(60, 10):
            heap = some_heap(chance)
            cycle = chance.choice(ALL)(heap, *some_registers(chance, heap, 3), table=some_table(chance))
            old, begun, steps = cycle.reachable, len(heap[1]), []
            for step, _ in wander(chance, cycle, 30):
                steps.append(step)
                self.assertEqual(cycle.steps, tuple(steps))
                self.assertEqual(cycle.scans, len([one for one in steps if one[0] == "scan"]))
                self.assertEqual(cycle.state, (cycle.heap, cycle.registers, cycle.colors, cycle.visited))
                self.assertEqual(cycle.reachable, reachable(cycle.heap, cycle.registers))
                self.assertEqual((cycle.old, cycle.begun), (old, begun))
                white = tuple(x for x, color in enumerate(cycle.colors) if color == "white")
                self.assertEqual(cycle.lost, tuple(x for x in white if x in cycle.reachable))
                self.assertEqual(cycle.freed, white if cycle.phase == "ended" else ())
                self.assertEqual(len(cycle), len(cycle.colors))

    def test_results_stay(self):
        cycle = Cycle(HEAP, 0, None, table=Table(("load", "grey")))
        kept = [(name, getattr(cycle, name), frozen(getattr(cycle, name))) for name in PROPERTIES]
        told = cycle.step(("start",), ("load", 1, 0, 0))
        cycle.step(("store", 0, 0, None), ("scan", 0), ("scan", 1), ("end",))
        cycle.undo(3)
        self.assertEqual(told, ((0,), (1,)))
        for name, value, copy in kept:
            self.assertEqual(value, copy, name)

    def test_plain_kinds(self):
        cycle = FieldCycle(HEAP, 0, None)
        told = cycle.step(("start",), ("scan", 0, 0), ("new", 1))
        kinds = {"phase": str, "scans": int, "begun": int}
        for name in PROPERTIES:
            self.assertIs(type(getattr(cycle, name)), kinds.get(name, tuple))
        self.assertEqual((type(told), {type(item) for item in told}), (tuple, {tuple}))
        self.assertEqual({type(item) for name in ("visited", "steps", "state") for item in getattr(cycle, name)}, {tuple})


class AssigningTheTable(unittest.TestCase):
    def test_in_the_phase_ready(self):
        for made in ALL:
            cycle = made(HEAP, 0, None)
            cycle.table = Table(("old", "grey"))
            self.assertEqual(cycle.table, Table(("old", "grey")))
            self.assertIsNone(cycle.change_table(Table(("load", "grey"))))
            self.assertEqual(cycle.table, Table(("load", "grey")))
            self.assertIsNone(cycle.change_table(table=Table(("load", "grey"), ("new", "white"))))
            self.assertEqual(cycle.step(("start",), ("load", 1, 0, 0)), ((0,), (1,)))

    def test_later(self):
        for made in ALL:
            cycle = made((1, ()), None, table=Table(("old", "grey")))
            for step in [("start",), ("end",)]:
                cycle.step(step)
                for deed in (lambda: setattr(cycle, "table", Table()), lambda: cycle.change_table(Table())):
                    with self.assertRaises(Started):
                        deed()
                self.assertEqual(cycle.table, Table(("old", "grey")))
            cycle.undo(2)
            cycle.table = Table.full()
            self.assertEqual(cycle.table, Table.full())


class Steps(unittest.TestCase):
    def test_none_one_and_several(self):
        cycle = Cycle(HEAP, 0, None)
        self.assertEqual(cycle.step(), ())
        self.assertEqual(cycle.step(("start",)), ((0,),))
        self.assertEqual(cycle.step(), ())
        self.assertEqual(cycle.step(("scan", 0), ("scan", 1), ("end",)), ((1,), (), ()))
        self.assertEqual(cycle.steps, (("start",), ("scan", 0), ("scan", 1), ("end",)))
        self.assertEqual((cycle.scans, cycle.phase), (2, "ended"))

    def test_at_once_or_one_by_one(self):
        for chance in chances(40, 11):
            heap = some_heap(chance, most=4)
            registers = some_registers(chance, heap, 2)
            made, table = chance.choice(ALL), some_table(chance)
            one, other = made(heap, *registers, table=table), made(heap, *registers, table=table)
            told = [item for _, item in wander(chance, one, 25)]
            self.assertEqual(other.step(*one.steps), tuple(item[0] for item in told))
            self.assertEqual(one, other)


class Undo(unittest.TestCase):
    def test_one_several_and_all(self):
        for chance in chances(60, 12):
            heap = some_heap(chance, most=4)
            cycle = chance.choice(ALL)(heap, *some_registers(chance, heap, 2), table=some_table(chance))
            seen = [everything(cycle)]
            for _ in wander(chance, cycle, 20):
                seen.append(everything(cycle))
            steps = cycle.steps
            while len(seen) > 1:
                count = chance.randint(1, len(seen) - 1)
                for wrong in (len(seen), len(seen) + 1, 10 ** 30, 0, -1):
                    with self.assertRaises(NothingToUndo):
                        cycle.undo(wrong)
                given = {1: cycle.undo}.get(count) if chance.random() < 0.5 else None
                undone = given() if given else cycle.undo(count=count)
                self.assertEqual(undone, steps[::-1][:count])
                self.assertIs(type(undone), tuple)
                seen, steps = seen[:-count], steps[:-count]
                self.assertEqual(everything(cycle), seen[-1])
            with self.assertRaises(NothingToUndo):
                cycle.undo()

    def test_counts_that_are_none(self):
        cycle = Cycle(HEAP, 0, None)
        cycle.step(("start",), ("scan", 0))
        before = everything(cycle)
        for count in [True, False, 0, -1, 3, "1", "", None, 1.0, (1,), [1], {}, (), 10 ** 40] + ANY:
            if type(count) is int and count in (1, 2):
                continue
            kept = frozen(count)
            with self.assertRaises(NothingToUndo) as caught:
                cycle.undo(count)
            self.assertIs(caught.exception.count, count)
            self.assertEqual(everything(cycle), before)
            self.assertEqual(count, kept)

    def test_nothing_to_undo(self):
        with self.assertRaises(NothingToUndo) as caught:
            Cycle(HEAP, 0).undo()
        self.assertEqual(caught.exception.count, 1)

    def test_going_on_behind_it(self):
        cycle = Cycle(HEAP, 0, None)
        cycle.step(("start",), ("scan", 0), ("scan", 1), ("end",))
        self.assertEqual(cycle.undo(3), (("end",), ("scan", 1), ("scan", 0)))
        cycle.step(("clear", 0), ("scan", 0))
        self.assertEqual(cycle.steps, (("start",), ("clear", 0), ("scan", 0)))
        self.assertEqual(cycle.undo(2), (("scan", 0), ("clear", 0)))


class Twins(unittest.TestCase):
    def test_they_share_nothing(self):
        for chance in chances(60, 13):
            heap = some_heap(chance, most=4)
            cycle = chance.choice(ALL)(heap, *some_registers(chance, heap, 2), table=some_table(chance))
            list(wander(chance, cycle, 12))
            twin, kept = cycle.twin(), everything(cycle)
            self.assertIs(type(twin), type(cycle))
            self.assertIsNot(twin, cycle)
            self.assertEqual((everything(twin), twin == cycle), (kept, True))
            list(wander(chance, twin, 12))
            self.assertEqual(everything(cycle), kept)
            went = everything(twin)
            list(wander(chance, cycle, 12))
            if cycle.steps:
                cycle.undo(len(cycle.steps))
                cycle.table = Table.full()
            self.assertEqual(everything(twin), went)
            if twin.steps:
                self.assertEqual(twin.undo(len(twin.steps))[::-1], went[PROPERTIES.index("steps")])
                self.assertEqual(twin.state[:2], (heap, cycle.registers))

    def test_tables(self):
        cycle = Cycle(HEAP, 0)
        twin = cycle.twin()
        twin.table = Table.full()
        self.assertEqual((cycle.table, twin.table), (Table(), Table.full()))

    def test_of_a_cycle_in_which_old_objects_are_gone(self):
        cycle = Cycle(HEAP, 0)
        cycle.step(("start",), ("clear", 0), ("new", 0))
        twin = cycle.twin()
        self.assertEqual((twin.old, twin.begun, twin.reachable), ((0, 1), 2, (2,)))
        self.assertEqual(twin.undo(3), (("new", 0), ("clear", 0), ("start",)))
        self.assertEqual(twin, Cycle(HEAP, 0))


class Operators(unittest.TestCase):
    def test_in(self):
        cycle = Cycle((1, ((1,), (None,), (None,))), 0, None)
        self.assertEqual([x in cycle for x in (-1, 0, 1, 2, 3, 10 ** 30)], [False, True, True, False, False, False])
        for thing in [True, False, None, "0", "", (0,), [0], {}, (), 0.0] + ANY:
            if type(thing) is not int:
                self.assertIs(thing in cycle, False)
        cycle.step(("start",), ("clear", 0))
        self.assertEqual([x in cycle for x in range(3)], [False, False, False])
        self.assertIs(0 in cycle, False)
        cycle.undo()
        self.assertIs(0 in cycle, True)

    def test_repr(self):
        names = {Cycle: "Cycle", FieldCycle: "FieldCycle", CountingCycle: "CountingCycle",
                 CountingFieldCycle: "CountingFieldCycle"}
        for made, name in names.items():
            cycle = made((1, ()), None)
            self.assertEqual(repr(cycle), name + "(0 objects, ready)")
            cycle.step(("start",), ("new", 0))
            self.assertEqual(repr(cycle), name + "(1 objects, marking)")
            cycle.step(("new", 0), ("end",))
            self.assertEqual(repr(cycle), name + "(2 objects, ended)")

    def test_len(self):
        cycle = Cycle((1, ((0,),) * 3), None)
        cycle.step(("start",), ("new", 0))
        self.assertEqual(len(cycle), 4)


class Equality(unittest.TestCase):
    def check(self, one, other, expected):
        for a, b in ((one, other), (other, one)):
            self.assertIs(a == b, expected)
            self.assertIs(a != b, not expected)

    def test_equal_ones(self):
        for scanning, pair in (("whole", (Cycle, CountingCycle)), ("fields", (FieldCycle, CountingFieldCycle))):
            cycles = [made(HEAP, 0, None, table=Table(("old", "grey"))) for made in pair + pair]
            for cycle in cycles:
                cycle.step(("start",), ("load", 1, 0, 0))
            for one in cycles:
                for other in cycles:
                    self.check(one, other, True)

    def test_scannings(self):
        for one in (Cycle, CountingCycle):
            for other in (FieldCycle, CountingFieldCycle):
                self.check(one(HEAP, 0), other(HEAP, 0), False)

    def test_tables(self):
        for other in (Table(("old", "grey")), Table(fresh="grey"), Table(roots="again")):
            self.check(Cycle(HEAP, 0), Cycle(HEAP, 0, table=other), False)

    def test_phases(self):
        ready = Cycle(HEAP, 0)
        marking = Cycle.at(ready.state, Table())
        self.assertEqual((ready.state, ready.old, ready.begun, ready.steps),
                         (marking.state, marking.old, marking.begun, marking.steps))
        self.check(ready, marking, False)

    def test_states(self):
        state = (HEAP, (0, None), ("grey", "white"), ((), ()))
        self.check(Cycle.at(state, Table()), Cycle.at(state, Table()), True)
        for other in [
            ((1, ((1,), (1,))), (0, None), ("grey", "white"), ((), ())),
            (HEAP, (0, 0), ("grey", "white"), ((), ())),
            (HEAP, (0, None), ("grey", "grey"), ((), ())),
        ]:
            self.check(Cycle.at(state, Table()), Cycle.at(other, Table()), False)
        wide = ((2, ((0, 0),)), (0,), ("grey",))
        self.check(FieldCycle.at(wide + (((0,),),), Table()), FieldCycle.at(wide + (((1,),),), Table()), False)

    def test_old_objects(self):
        heap, rest = (1, ((None,), (None,))), (("black", "black"), ((0,), (0,)))
        one, other = Cycle.at((heap, (0, 1)) + rest, Table()), Cycle.at((heap, (1, 1)) + rest, Table())
        one.step(("move", 0, 1))
        other.step(("move", 0, 1))
        self.assertEqual((one.state, one.steps, one.begun, one.phase), (other.state, other.steps, other.begun, other.phase))
        self.assertEqual((one.old, other.old), ((0, 1), (1,)))
        self.check(one, other, False)

    def test_old_objects_and_begun(self):
        one = Cycle((1, ()), None)
        one.step(("start",), ("new", 0))
        made = Cycle.at(one.state, Table())
        self.assertEqual((one.old, one.begun, made.old, made.begun), ((), 0, (0,), 1))
        self.check(one, made, False)

    def test_steps_alone(self):
        one, other = Cycle((1, ((None,), (None,))), 0, 0), Cycle((1, ((None,), (None,))), 0, 0)
        one.step(("start",), ("move", 0, 1))
        other.step(("start",), ("move", 1, 0))
        self.assertEqual((one.state, one.old, one.begun), (other.state, other.old, other.begun))
        self.check(one, other, False)
        other.undo()
        self.check(one, other, False)
        one.undo()
        self.check(one, other, True)

    def test_nothing_else_is_equal(self):
        cycle = Cycle(HEAP, 0)
        for thing in ANY + [cycle.state, cycle.table, repr(cycle), Cycle]:
            self.check(cycle, thing, False)


class RefusedThings(unittest.TestCase):
    def test_an_error_changes_nothing(self):
        cycle = CountingCycle(HEAP, 0, None, table=Table.full())
        cycle.step(("start",), ("store", 0, 0, None))
        before, fired = everything(cycle), cycle.fired
        for deed in [lambda: cycle.step(("scan", 0), ("scan", 0)), lambda: cycle.undo(3), lambda: cycle.change_table(Table())]:
            with self.assertRaises((InvalidStep, NothingToUndo, Started)):
                deed()
            self.assertEqual((everything(cycle), cycle.fired), (before, fired))
