"""Point 30: trials."""

import unittest

from shadeguards.countingcycles import CountingCycle, CountingFieldCycle
from shadeguards.cycles import Cycle
from shadeguards.errors import InvalidStep, Started
from shadeguards.fieldcycles import FieldCycle
from shadeguards.tables import Table
from tests.test_cycles import everything
from tests.values import chances, some_heap, some_registers, some_table, wander

ALL = (Cycle, FieldCycle, CountingCycle, CountingFieldCycle)
HEAP = (1, ((1,), (None,)))


def started(made=Cycle, **words):
    cycle = made(HEAP, 0, None, **words)
    cycle.step(("start",), ("load", 1, 0, 0), ("clear", 1))
    return cycle


class Trials(unittest.TestCase):
    def test_as_gives_the_cycle_itself(self):
        cycle = started()
        with cycle.trial() as tried:
            self.assertIs(tried, cycle)

    def test_the_cycle_is_as_before(self):
        for made in ALL:
            cycle = started(made)
            before = everything(cycle)
            with cycle.trial():
                cycle.step(("clear", 0), ("new", 0))
                self.assertEqual(cycle.steps[3:], (("clear", 0), ("new", 0)))
            self.assertEqual(everything(cycle), before)
            self.assertEqual(cycle.undo(3), (("clear", 1), ("load", 1, 0, 0), ("start",)))
            self.assertEqual(cycle, made(HEAP, 0, None))

    def test_undo_in_a_trial(self):
        cycle = started()
        before = everything(cycle)
        with cycle.trial():
            cycle.undo(2)
            cycle.step(("new", 1), ("new", 1), ("new", 1), ("new", 0))
        self.assertEqual(everything(cycle), before)
        self.assertEqual(cycle.undo(), (("clear", 1),))
        self.assertEqual(cycle.undo(2), (("load", 1, 0, 0), ("start",)))
        self.assertEqual(cycle, Cycle(HEAP, 0, None))

    def test_a_table_that_is_assigned_in_a_trial(self):
        for made in ALL:
            cycle = made(HEAP, 0, None)
            with cycle.trial():
                cycle.table = Table.full()
                cycle.step(("start",))
            self.assertEqual((cycle.table, cycle.phase), (Table(), "ready"))
            cycle = started(made, table=Table(("old", "grey")))
            before = everything(cycle)
            with cycle.trial():
                cycle.undo(3)
                cycle.change_table(Table.full())
                cycle.step(("start",))
                self.assertEqual(cycle.table, Table.full())
            self.assertEqual(everything(cycle), before)
            with self.assertRaises(Started):
                cycle.table = Table.full()

    def test_an_error_in_a_trial(self):
        cycle = started()
        before = everything(cycle)
        with self.assertRaises(ZeroDivisionError):
            with cycle.trial():
                cycle.step(("clear", 0))
                raise ZeroDivisionError
        self.assertEqual(everything(cycle), before)
        with self.assertRaises(InvalidStep):
            with cycle.trial():
                cycle.undo(3)
                cycle.step(("end",))
        self.assertEqual(everything(cycle), before)

    def test_a_trial_in_a_trial(self):
        cycle = started()
        before = everything(cycle)
        with cycle.trial():
            cycle.undo()
            middle = everything(cycle)
            with cycle.trial():
                cycle.step(("scan", 0), ("scan", 1), ("end",))
                with cycle.trial():
                    cycle.undo(5)
                    cycle.table = Table.full()
            self.assertEqual(everything(cycle), middle)
            cycle.step(("new", 0))
        self.assertEqual(everything(cycle), before)

    def test_what_counts_is_when_the_block_begins(self):
        cycle = started()
        trial = cycle.trial()
        cycle.step(("new", 1))
        before = everything(cycle)
        for _ in range(2):
            with trial:
                cycle.step(("new", 0))
            self.assertEqual(everything(cycle), before)
            cycle.undo()
            before = everything(cycle)

    def test_a_twin_of_a_trial_goes_on(self):
        cycle = started()
        with cycle.trial():
            cycle.step(("new", 1))
            twin = cycle.twin()
        self.assertEqual((len(twin), len(cycle)), (3, 2))
        self.assertEqual(twin.undo(), (("new", 1),))
        self.assertEqual(twin, cycle)

    def test_chance(self):
        for chance in chances(60, 14):
            heap = some_heap(chance, most=4)
            cycle = chance.choice(ALL)(heap, *some_registers(chance, heap, 2), table=some_table(chance))
            list(wander(chance, cycle, 10))
            before = everything(cycle)
            with cycle.trial():
                list(wander(chance, cycle, 10))
                if cycle.steps:
                    cycle.undo(chance.randint(1, len(cycle.steps)))
                list(wander(chance, cycle, 10))
            self.assertEqual(everything(cycle), before)
            if cycle.steps:
                self.assertEqual(cycle.undo(len(cycle.steps))[::-1], before[6])
            self.assertEqual(cycle.state[:2], (heap, cycle.registers))


class Tried(unittest.TestCase):
    def test_the_result(self):
        for made in ALL:
            cycle = started(made)
            before = everything(cycle)
            seen = []

            def deed(given):
                seen.append(given)
                return given.step(("clear", 0), ("new", 0)), given.registers

            self.assertEqual(cycle.tried(deed), (((), ()), (2, None)))
            self.assertEqual(len(seen), 1)
            self.assertIs(seen[0], cycle)
            self.assertEqual(everything(cycle), before)
            self.assertIsNone(cycle.tried(deed=lambda given: None))

    def test_its_error(self):
        cycle = started()
        before = everything(cycle)
        with self.assertRaises(InvalidStep) as caught:
            cycle.tried(lambda given: (given.step(("clear", 0)), given.step(("clear", 0))))
        self.assertEqual((caught.exception.index, caught.exception.reason), (0, "empty"))
        self.assertEqual(everything(cycle), before)

        def wrong(given):
            given.undo(3)
            given.table = Table.full()
            raise KeyError(given.table.fresh)

        with self.assertRaises(KeyError):
            cycle.tried(wrong)
        self.assertEqual(everything(cycle), before)

    def test_the_table(self):
        cycle = Cycle(HEAP, 0, None)

        def deed(given):
            given.table = Table(("load", "grey"))
            return given.step(("start",), ("load", 1, 0, 0))

        self.assertEqual(cycle.tried(deed), ((0,), (1,)))
        self.assertEqual((cycle.table, cycle.phase), (Table(), "ready"))

    def test_one_in_another(self):
        cycle = Cycle(HEAP, 0, None)

        def outer(given):
            given.step(("start",))
            inner = given.tried(lambda one: (one.undo(), one.phase))
            return inner, given.phase

        self.assertEqual(cycle.tried(outer), (((("start",),), "ready"), "marking"))
        self.assertEqual(cycle, Cycle(HEAP, 0, None))
