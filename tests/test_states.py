"""Points 5 and 31: states, and cycles that are made of them."""

import unittest

from shadeguards.countingcycles import CountingCycle, CountingFieldCycle
from shadeguards.cycles import Cycle
from shadeguards.errors import InvalidState, Started
from shadeguards.fieldcycles import FieldCycle
from shadeguards.reaching import reachable
from shadeguards.states import is_state
from shadeguards.tables import Table
from tests.values import ANY, chances, frozen, some_state, some_table

HEAP = (2, ((1, None), (None, 2), (2, 2)))
RIGHT = (HEAP, (0, None), ("black", "grey", "white"), ((0, 1), (), ()))
HALF = (HEAP, (0, None), ("black", "grey", "white"), ((0, 1), (1,), ()))


def changed(state, **parts):
    """The state with other parts."""
    names = ("heap", "registers", "colors", "visited")
    return tuple(parts.get(name, part) for name, part in zip(names, state))


# Each is wrong by one clause of point 5 in both scannings.
WRONG = [
    (), RIGHT[:3], RIGHT + ((),), list(RIGHT), (RIGHT,),
    changed(RIGHT, heap=[2, HEAP[1]]), changed(RIGHT, heap=(2, HEAP[1], ())), changed(RIGHT, heap=(5, HEAP[1])),
    changed(RIGHT, heap=(2, ((1, None), (None, 3), (2, 2)))), changed(RIGHT, heap=(2, ((True, None), (None, 2), (2, 2)))),
    changed(RIGHT, heap=(2, list(HEAP[1]))), changed(RIGHT, heap=None),
    changed(RIGHT, registers=()), changed(RIGHT, registers=(None,) * 7), changed(RIGHT, registers=[0, None]),
    changed(RIGHT, registers=(3,)), changed(RIGHT, registers=(False,)), changed(RIGHT, registers=(-1,)),
    changed(RIGHT, registers=None), changed(RIGHT, registers=("0",)),
    changed(RIGHT, colors=("black", "grey")), changed(RIGHT, colors=("black", "grey", "white", "white")),
    changed(RIGHT, colors=["black", "grey", "white"]), changed(RIGHT, colors=("black", "grey", "red")),
    changed(RIGHT, colors=("black", "grey", ("white",))), changed(RIGHT, colors=("black", "grey", None)),
    changed(RIGHT, colors=("black", "grey", ["white"])), changed(RIGHT, colors="bgw"), changed(RIGHT, colors={}),
    changed(RIGHT, visited=((0, 1), ())), changed(RIGHT, visited=((0, 1), (), (), ())),
    changed(RIGHT, visited=[(0, 1), (), ()]), changed(RIGHT, visited=((0, 1), [], ())), changed(RIGHT, visited=None),
    changed(RIGHT, visited=([0, 1], (), ())), changed(RIGHT, visited=((0, 1), None, ())), changed(RIGHT, visited="abc"),
    changed(RIGHT, visited=((0,), (), ())), changed(RIGHT, visited=((), (), ())), changed(RIGHT, visited=((1, 0), (), ())),
    changed(RIGHT, visited=((0, 1, 2), (), ())), changed(RIGHT, visited=((0, 0), (), ())),
    changed(RIGHT, visited=((0, 0, 1), (), ())), changed(RIGHT, visited=((0, 1, 1), (), ())),
    changed(RIGHT, visited=((0, True), (), ())), changed(RIGHT, visited=((False, 1), (), ())),
    changed(RIGHT, visited=((0, "1"), (), ())), changed(RIGHT, visited=((0, []), (), ())),
    changed(RIGHT, visited=((0, {}), (), ())), changed(RIGHT, visited=((0, (1,)), (), ())),
    changed(RIGHT, visited=((0, 1), (), (0,))), changed(RIGHT, visited=((0, 1), (), (0, 1))),
    changed(RIGHT, visited=((0, 1), (0, 1), ())), changed(RIGHT, visited=((0, 1), (2,), ())),
    changed(RIGHT, visited=((0, 1), (-1,), ())), changed(RIGHT, visited=((0, 1), (False,), ())),
    changed(RIGHT, visited=((0, 1), (True,), ())), changed(RIGHT, visited=((0, 1), (0, 0), ())),
    changed(RIGHT, visited=((0, 1), (10 ** 30,), ())), changed(RIGHT, visited=((0, 1), ((0,),), ())),
]


class IsState(unittest.TestCase):
    def test_right_ones(self):
        for scanning in ("whole", "fields"):
            self.assertIs(is_state(RIGHT, scanning=scanning), True)
            self.assertIs(is_state(scanning=scanning, thing=RIGHT), True)
            self.assertIs(is_state(((1, ()), (None,), (), ()), scanning=scanning), True)
        self.assertIs(is_state(RIGHT), True)

    def test_visited_fields_of_grey_objects(self):
        for fields in ((0,), (1,)):
            state = changed(RIGHT, visited=((0, 1), fields, ()))
            self.assertIs(is_state(state, scanning="fields"), True)
            self.assertIs(is_state(state, scanning="whole"), False)
            self.assertIs(is_state(state), False)
        one = ((1, ((0,),)), (0,), ("grey",), ((0,),))
        self.assertIs(is_state(one, scanning="fields"), False)
        self.assertIs(is_state(one), False)
        four = ((4, ((0,) * 4,)), (0,), ("grey",), ((0, 2, 3),))
        self.assertIs(is_state(four, scanning="fields"), True)
        self.assertIs(is_state(changed(four, visited=((0, 3, 2),)), scanning="fields"), False)
        self.assertIs(is_state(changed(four, visited=((0, 1, 2, 3),)), scanning="fields"), False)

    def test_wrong_by_one_clause(self):
        for scanning in ("whole", "fields"):
            for thing in WRONG + ANY:
                before = frozen(thing)
                self.assertIs(is_state(thing, scanning=scanning), False, thing)
                self.assertEqual(thing, before)

    def test_forty_objects(self):
        for many, expected in ((40, True), (41, False)):
            state = ((1, ((None,),) * many), (None,), ("black",) * many, ((0,),) * many)
            self.assertIs(is_state(state), expected)

    def test_chance(self):
        for chance in chances(200):
            scanning = chance.choice(("whole", "fields"))
            self.assertIs(is_state(some_state(chance, scanning), scanning=scanning), True)


class At(unittest.TestCase):
    def test_all_classes(self):
        for chance in chances(100, 1):
            for made in (Cycle, FieldCycle, CountingCycle, CountingFieldCycle):
                state = some_state(chance, made.SCANNING)
                table = some_table(chance)
                before = frozen(state)
                cycle = made.at(state, table)
                self.assertIs(type(cycle), made)
                self.assertEqual(cycle.state, state)
                self.assertEqual((cycle.heap, cycle.registers, cycle.colors, cycle.visited), state)
                self.assertEqual((cycle.phase, cycle.steps, cycle.scans), ("marking", (), 0))
                self.assertEqual(cycle.old, reachable(state[0], state[1]))
                self.assertEqual(cycle.begun, len(state[0][1]))
                self.assertEqual(cycle.table, table)
                self.assertEqual(cycle, made.at(table=table, state=state))
                self.assertEqual(state, before)
                for deed in (lambda: cycle.change_table(Table()), lambda: setattr(cycle, "table", table)):
                    with self.assertRaises(Started):
                        deed()
                self.assertEqual(cycle.table, table)
                if made in (CountingCycle, CountingFieldCycle):
                    self.assertEqual(cycle.fired, tuple((entry, 0) for entry in table.entries))

    def test_no_states(self):
        for made in (Cycle, FieldCycle, CountingCycle, CountingFieldCycle):
            for thing in WRONG + ANY + ([] if made.SCANNING == "fields" else [HALF]):
                before = frozen(thing)
                with self.assertRaises(InvalidState):
                    made.at(thing, Table())
                self.assertEqual(thing, before)
        for made in (FieldCycle, CountingFieldCycle):
            self.assertEqual(made.at(HALF, Table()).visited, HALF[3])

    def test_a_cycle_goes_on_from_there(self):
        cycle = FieldCycle.at(HALF, Table(fresh="grey"))
        self.assertEqual(cycle.step(("scan", 1, 0), ("new", 1), ("scan", 3, 1)), ((), (), ()))
        self.assertEqual(cycle.colors, ("black", "black", "white", "grey"))
        self.assertEqual((cycle.begun, cycle.old, cycle.lost), (3, (0, 1, 2), (2,)))
        self.assertEqual(cycle.undo(3), (("scan", 3, 1), ("new", 1), ("scan", 1, 0)))
        self.assertEqual(cycle, FieldCycle.at(HALF, Table(fresh="grey")))
