"""Point 40: states in which a step breaks an invariant."""

import unittest

from shadeguards.breaking import breaking, check_breaking
from shadeguards.entries import ENTRIES
from shadeguards.errors import NoInvariant
from shadeguards.needs import is_kept
from shadeguards.states import is_state
from shadeguards.tables import Table
from tests.model import Model
from tests.test_invariants import NO_NAMES, offenders
from tests.test_needs import EXPECTED, NAMES, meeting_all_but
from tests.values import ANY, CLASSES, chances, frozen, reason_of, some_state, some_table, unlike_tables

STATE = ((1, ((1,), (None,))), (0, None), ("grey", "white"), ((), ()))
LOAD = ("load", 1, 0, 0)


def after(state, step, table, scanning):
    """The cycle after a step that the other machine performs, or None if the step is refused there."""
    model = Model(state, "marking", table, scanning)
    if model.why(step) is not None:
        return None
    model.do(step)
    return CLASSES[scanning].at(model.state(), table)


class Breaking(unittest.TestCase):
    def check(self, table, name, registers, scanning):
        found = breaking(table, name, registers=registers, scanning=scanning)
        if is_kept(table, name, registers=registers, scanning=scanning):
            self.assertIsNone(found)
            return
        state, step = found
        self.assertIs(is_state(state, scanning=scanning), True)
        (width, objects), slots, _, _ = state
        self.assertLessEqual(len(objects), 4)
        self.assertIn(width, (1, 2))
        self.assertEqual(len(slots), 1 if registers == 1 else 2)
        self.assertEqual(offenders(CLASSES[scanning].at(state, table), name), [])
        self.assertNotEqual(offenders(after(state, step, table, scanning), name), [])
        self.assertIs(check_breaking(table, name, found, scanning=scanning), True)

    def test_tables_that_meet_all_needs_but_one(self):
        for (name, registers, scanning), asked in EXPECTED.items():
            for others in ([], ENTRIES):
                for need in (None,) + asked:
                    for roots in Table.ROOTS:
                        table = meeting_all_but(asked, need, others).changed(roots=roots)
                        self.assertIs(breaking(table, name, registers=registers, scanning=scanning) is None, need is None)
                        self.check(table, name, registers, scanning)

    def test_all_tables_of_unlike_kinds(self):
        named = {"strong": "new-grey new-black source-grey source-black", "registers": "load-grey",
                 "held": "load-white old-grey", "paths": "old-white old-grey",
                 "thread": "old-white old-grey new-grey new-black source-black"}
        for name, registers, scanning in EXPECTED:
            for table in unlike_tables(*[tuple(word.split("-")) for word in named[name].split()]):
                self.check(table, name, registers, scanning)

    def test_chance(self):
        for chance in chances(400, 42):
            table = some_table(chance)
            for name, registers, scanning in EXPECTED:
                self.check(table, name, registers, scanning)

    def test_arguments(self):
        table = Table(fresh="white")
        for name in NAMES:
            for registers in (2, 3, 6, 10 ** 40):
                for scanning in ("whole", "fields"):
                    expected = breaking(table, name, registers=2, scanning=scanning)
                    self.assertEqual(breaking(scanning=scanning, registers=registers, name=name, table=table), expected)
            self.assertEqual(breaking(table, name), breaking(table, name, registers=2, scanning="whole"))

    def test_kinds(self):
        state, step = found = breaking(Table(), "strong")
        self.assertEqual([type(found), type(state), type(step)], [tuple] * 3)

    def test_names_that_are_none(self):
        for name in ["screened", "snapshot"] + NO_NAMES:
            for deed in (breaking, lambda table, name: check_breaking(table, name, None),
                         lambda table, name: check_breaking(table, name, (STATE, LOAD), scanning="fields")):
                before = frozen(name)
                with self.assertRaises(NoInvariant) as caught:
                    deed(Table(), name)
                self.assertIs(caught.exception.name, name)
                self.assertEqual(name, before)

    def test_tables_that_meet_their_needs_keep_the_invariant(self):
        # The fact of point 39, in states of chance.
        for chance in chances(1500, 43):
            scanning, name = chance.choice(("whole", "fields")), chance.choice(NAMES)
            state = some_state(chance, scanning, most=4, width=chance.choice((1, 2)))
            registers = len(state[1])
            table = meeting_all_but(EXPECTED[name, min(registers, 2), scanning], None, some_table(chance).entries)
            cycle = CLASSES[scanning].at(state, table)
            if offenders(cycle, name):
                continue
            for step in cycle.moves():
                self.assertEqual(offenders(after(state, step, table, scanning), name), [], (state, step, table.entries))


class CheckBreaking(unittest.TestCase):
    def reason(self, value, table=Table(), name="registers", **words):
        return reason_of(self, check_breaking, table, name, value, **words)

    def test_right_ones(self):
        self.assertIs(check_breaking(Table(), "registers", (STATE, LOAD)), True)
        self.assertIs(check_breaking(table=Table(), name="registers", value=(STATE, LOAD), scanning="whole"), True)
        self.assertIs(check_breaking(Table(), "registers", (STATE, LOAD), scanning="fields"), True)
        # Any number of registers, objects and fields is right.
        wide = ((3, ((None, 1, None),) + ((None,) * 3,) * 5), (0, None, None, 2), ("grey",) + ("white",) * 1 + ("grey",) * 4,
                ((),) * 6)
        self.assertIs(check_breaking(Table(), "registers", (wide, ("load", 2, 0, 1))), True)

    def test_form(self):
        for value in ANY + [(STATE,), (STATE, LOAD, LOAD), [STATE, LOAD], STATE + (LOAD,), {STATE: LOAD}, (STATE, LOAD, None)]:
            if type(value) is tuple and len(value) == 2:
                continue
            self.assertEqual(self.reason(value), "form")

    def test_state(self):
        half = ((2, ((None, 1), (None, None))), (0, None), ("grey", "white"), ((0,), ()))
        bad = [STATE[:3], list(STATE), ((1, ((2,), (None,))),) + STATE[1:], (STATE[0], (True, None)) + STATE[2:],
               (STATE[0], ()) + STATE[2:], STATE[:2] + (("grey", "red"), ((), ())), STATE[:3] + (((0,), ()),), half]
        for thing in bad + ANY:
            for step in (LOAD, ("load", 9, 0, 0), None):
                self.assertEqual(self.reason((thing, step)), "state")
        self.assertIs(check_breaking(Table(), "registers", (half, ("load", 1, 0, 1)), scanning="fields"), True)
        self.assertEqual(self.reason((STATE[:3] + (((0,), ()),), LOAD), scanning="fields"), "state")

    def test_before(self):
        white = (STATE[0], (0, 1)) + STATE[2:]
        for step in (("load", 1, 0, 0), ("move", 0, 1), ("load", 0, 5, 0), None):
            self.assertEqual(self.reason((white, step)), "before")
        self.assertIs(check_breaking(Table(), "held", (white, ("store", 0, 0, None))), True)

    def test_step(self):
        for step in ANY + [("load", 2, 0, 0), ("start",), ("end",), ("look",), ["load", 1, 0, 0], ("load", True, 0, 0),
                           ("scan", 1), ("scan", 0, 0), ("load", 1, 1, 0), ("move", 0, 0), ("load", 1, 0, 1)]:
            self.assertEqual(self.reason((STATE, step)), "step")
        # The scan of a whole object is a step of one scanning alone.
        self.assertEqual(self.reason((STATE, ("scan", 0)), scanning="fields"), "step")
        self.assertEqual(self.reason((STATE, ("scan", 0))), "after")

    def test_after(self):
        for step in [("load", 0, 0, 0), ("load", 1, 0, 0)]:
            self.assertEqual(self.reason((STATE, step), Table(("load", "grey"))), "after")
        self.assertEqual(self.reason((STATE, ("move", 1, 0))), "after")
        self.assertEqual(self.reason((STATE, ("look",)), Table(roots="again")), "after")
        self.assertEqual(self.reason((STATE, LOAD), name="strong"), "after")

    def test_chance(self):
        seen = set()
        for chance in chances(600, 44):
            scanning, name = chance.choice(("whole", "fields")), chance.choice(NAMES)
            state, table = some_state(chance, scanning, most=3, width=1), some_table(chance)
            cycle = CLASSES[scanning].at(state, table)
            step = chance.choice(list(cycle.moves()) + [("start",)])
            expected = None
            if offenders(cycle, name):
                expected = "before"
            elif after(state, step, table, scanning) is None:
                expected = "step"
            elif not offenders(after(state, step, table, scanning), name):
                expected = "after"
            seen.add(expected)
            if expected is None:
                self.assertIs(check_breaking(table, name, (state, step), scanning=scanning), True)
            else:
                self.assertEqual(self.reason((state, step), table, name, scanning=scanning), expected)
        self.assertEqual(seen, {None, "before", "step", "after"})
