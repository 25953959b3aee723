"""Point 34: how often entries change something."""

import itertools
import unittest

from shadeguards.countingcycles import CountingCycle, CountingFieldCycle, cycle_for
from shadeguards.cycles import Cycle
from shadeguards.entries import COLORS, ENTRIES
from shadeguards.errors import InvalidStep
from shadeguards.fieldcycles import FieldCycle
from shadeguards.tables import Table
from tests.values import chances, some_heap, some_registers, some_table, wander

BOTH = (CountingCycle, CountingFieldCycle)


def count(before, table, step):
    """The entries that change something in a step that is possible in the state `before`, from the words of point 34."""
    (_, objects), registers, colors, visited = before
    if step[0] not in ("load", "store"):
        return set()
    if step[0] == "load":
        _, _, s, f = step
        shaded = {"load": objects[registers[s]][f]}
    else:
        _, s, f, t = step
        shaded = {"old": objects[registers[s]][f], "new": None if t is None else registers[t]}
    source = registers[s]
    found = {(kind, colors[source]) for kind, x in shaded.items() if x is not None and colors[x] == "white"}
    if step[0] == "store" and (colors[source] != "grey" or visited[source]):
        found.add(("source", colors[source]))
    return found & set(table.entries)


def numbers(cycle):
    """The entries that changed something, with their numbers."""
    return {entry: number for entry, number in cycle.fired if number}


class Fired(unittest.TestCase):
    def test_at_first(self):
        for made in BOTH:
            for table in (Table(), Table.full(), Table(("source", "grey"), ("load", "white"))):
                cycle = made((1, ((None,),)), 0, table=table)
                self.assertEqual(cycle.fired, tuple((entry, 0) for entry in table.entries))
                self.assertEqual(type(cycle.fired), tuple)

    def test_each_entry_alone_and_among_all(self):
        for made, source, other in itertools.product(BOTH, COLORS, COLORS):
            heap = (1, ((1,), (None,), (None,)))
            seen = [(0,) if color == "black" else () for color in (source, other, other)]
            state = (heap, (0, None, 2), (source, other, other), tuple(seen))
            white = other == "white"
            for table in [Table(entry) for entry in ENTRIES] + [Table.full()]:
                cycle = made.at(state, table)
                cycle.step(("load", 1, 0, 0))
                self.assertEqual(numbers(cycle), {("load", source): 1} if white and ("load", source) in table else {})
                cycle = made.at(state, table)
                cycle.step(("store", 0, 0, 2))
                expected = {(kind, source) for kind in ("old", "new") if white}
                if source != "grey":
                    expected.add(("source", source))
                self.assertEqual(numbers(cycle), {entry: 1 for entry in expected if entry in table})

    def test_two_entries_that_shade_one_object(self):
        state = ((1, ((1,), (None,))), (0, 1), ("black", "white"), ((0,), ()))
        cycle = CountingCycle.at(state, Table(("old", "black"), ("new", "black")))
        self.assertEqual(cycle.step(("store", 0, 0, 1)), ((1,),))
        self.assertEqual(cycle.fired, ((("old", "black"), 1), (("new", "black"), 1)))

    def test_all_three_on_the_source(self):
        state = ((1, ((0,),)), (0,), ("white",), ((),))
        cycle = CountingCycle.at(state, Table.full())
        cycle.step(("store", 0, 0, 0))
        self.assertEqual(numbers(cycle), {("old", "white"): 1, ("new", "white"): 1, ("source", "white"): 1})
        cycle.step(("store", 0, 0, 0))
        self.assertEqual(numbers(cycle), {("old", "white"): 1, ("new", "white"): 1, ("source", "white"): 1})

    def test_none_is_not_counted(self):
        for made, color in itertools.product(BOTH, COLORS):
            state = ((1, ((None,),)), (0, None), (color,), ((0,) if color == "black" else (),))
            cycle = made.at(state, Table(*[entry for entry in ENTRIES if entry[0] != "source"]))
            cycle.step(("load", 1, 0, 0), ("store", 0, 0, None))
            self.assertEqual(numbers(cycle), {})

    def test_a_grey_source(self):
        for visited, number in (((), 0), ((1,), 1), ((0, 2), 1)):
            state = ((3, ((None,) * 3,)), (0,), ("grey",), (visited,))
            cycle = CountingFieldCycle.at(state, Table(("source", "grey")))
            self.assertEqual(cycle.step(("store", 0, 0, None)), ((),))
            self.assertEqual(cycle.fired, ((("source", "grey"), number),))
            cycle.step(("store", 0, 0, None))
            self.assertEqual(cycle.fired, ((("source", "grey"), number),))
        cycle = CountingCycle((1, ((None,),)), 0, table=Table(("source", "grey")))
        cycle.step(("start",), ("store", 0, 0, None))
        self.assertEqual(cycle.fired, ((("source", "grey"), 0),))

    def test_a_source_of_another_color(self):
        for color in ("white", "black"):
            state = ((1, ((None,),)), (0,), (color,), ((0,) if color == "black" else (),))
            cycle = CountingCycle.at(state, Table(("source", "white"), ("source", "black")))
            cycle.step(("store", 0, 0, None), ("store", 0, 0, None))
            self.assertEqual(numbers(cycle), {("source", color): 1})

    def test_steps_that_are_no_loads_and_no_stores(self):
        cycle = CountingCycle((1, ((1,), (None,))), 0, None, table=Table.full(roots="again"))
        cycle.step(("start",), ("move", 1, 0), ("clear", 1), ("new", 1), ("look",), ("scan", 0), ("scan", 1), ("end",))
        self.assertEqual(numbers(cycle), {})

    def test_several_times(self):
        cycle = CountingCycle((3, ((1, 2, None), (None,) * 3, (None,) * 3)), 0, None, table=Table(("load", "grey")))
        cycle.step(("start",), ("load", 1, 0, 0), ("load", 1, 0, 1), ("load", 1, 0, 0), ("load", 1, 0, 2))
        self.assertEqual(cycle.fired, ((("load", "grey"), 2),))
        for number in (2, 2, 1, 0):
            cycle.undo()
            self.assertEqual(cycle.fired, ((("load", "grey"), number),))

    def test_it_cannot_be_assigned(self):
        for made in BOTH:
            with self.assertRaises(AttributeError):
                made((1, ()), None).fired = ()

    def test_only_cycles_that_count_have_it(self):
        for made in (Cycle, FieldCycle):
            self.assertFalse(hasattr(made((1, ()), None), "fired"))


class NotCounted(unittest.TestCase):
    def setUp(self):
        self.cycle = CountingCycle((1, ((1,), (None,))), 0, None, table=Table(("load", "grey"), ("old", "grey")))
        self.cycle.step(("start",), ("load", 1, 0, 0))
        self.before = self.cycle.fired

    def test_refused_calls(self):
        self.assertEqual(self.before, ((("load", "grey"), 1), (("old", "grey"), 0)))
        with self.assertRaises(InvalidStep):
            self.cycle.step(("store", 0, 0, None), ("load", 1, 0, 0), ("end",))
        self.assertEqual(self.cycle.fired, self.before)

    def test_trials(self):
        with self.cycle.trial():
            self.cycle.undo(2)
            self.assertEqual(numbers(self.cycle), {})
            self.cycle.table = Table(("old", "grey"))
            self.cycle.step(("start",), ("store", 0, 0, None))
            self.assertEqual(self.cycle.fired, ((("old", "grey"), 1),))
        self.assertEqual(self.cycle.fired, self.before)
        self.assertEqual(self.cycle.tried(lambda cycle: (cycle.undo(2), cycle.fired)[1]),
                         ((("load", "grey"), 0), (("old", "grey"), 0)))
        self.assertEqual(self.cycle.fired, self.before)

    def test_twins(self):
        twin = self.cycle.twin()
        self.assertEqual(twin.fired, self.before)
        twin.undo(2)
        twin.step(("start",), ("store", 0, 0, None))
        self.assertEqual(twin.fired, ((("load", "grey"), 0), (("old", "grey"), 1)))
        self.assertEqual(self.cycle.fired, self.before)


class Chance(unittest.TestCase):
    def test_against_the_words(self):
        for chance in chances(80, 15):
            scanning = chance.choice(("whole", "fields"))
            heap = some_heap(chance, most=5)
            registers, table = some_registers(chance, heap, 2), some_table(chance)
            cycle = cycle_for(scanning, heap, registers, table=table, counting=True)
            plain = cycle_for(scanning, heap, registers, table=table)
            expected = {entry: 0 for entry in table.entries}
            before = cycle.state
            for step, told in wander(chance, cycle, 30):
                for entry in count(before, table, step):
                    expected[entry] += 1
                self.assertEqual(cycle.fired, tuple(expected.items()))
                self.assertEqual(plain.step(step), told)
                self.assertTrue(plain == cycle and cycle == plain)
                before = cycle.state
