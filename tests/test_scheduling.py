"""Points 64 to 66: schedules."""

import unittest

from shadeguards.cycles import Cycle
from shadeguards.errors import InvalidStep
from shadeguards.fieldcycles import FieldCycle
from shadeguards.scheduling import schedule
from shadeguards.tables import Table
from tests.model import Model, all_steps
from tests.values import ANY, CLASSES, chances, frozen, some_heap, some_registers, some_table, wander

PAIR = (1, ((1,), (None,)))
LOAD, CUT = ("load", 1, 0, 0), ("store", 0, 0, None)
KINDS = ("load", "store", "move", "clear", "new")


def told(steps):
    """The steps that a schedule yields, and the error that it raises behind them, or None."""
    found = []
    try:
        for step in steps:
            found.append(step)
    except InvalidStep as error:
        return found, (error.index, error.reason)
    return found, None


class Expected:
    """A schedule in the words of point 65, played by the other machine."""

    def __init__(self, cycle):
        self.model = Model(cycle.state, cycle.phase, cycle.table, cycle.SCANNING)
        self.steps = []

    def do(self, step):
        self.model.do(step)
        self.steps.append(step)

    def scan(self, most=10 ** 9):
        while most and "grey" in self.model.colors:
            x = min(x for x, color in enumerate(self.model.colors) if color == "grey")
            fields = sorted(set(range(self.model.width)) - self.model.visited[x])
            self.do(("scan", x) if self.model.scanning == "whole" else ("scan", x, fields[0]))
            most -= 1

    def holds_white(self):
        return any(x is not None and self.model.colors[x] == "white" for x in self.model.registers)

    def play(self, program, pace):
        """The steps and the error."""
        if self.model.phase == "ended":
            return [], (-1, "phase")
        if self.model.phase == "ready":
            self.do(("start",))
        for index, step in enumerate(program):
            slots, many = len(self.model.registers) + 3, len(self.model.fields) + 3
            known = type(step) is tuple and step[:1] and step[0] in KINDS
            if not known or step not in all_steps(self.model.scanning, slots, self.model.width + 3, many):
                return self.steps, (index, "form")
            if self.model.why(step) is not None:
                return self.steps, (index, self.model.why(step))
            self.do(step)
            self.scan(pace)
        self.scan()
        while self.model.table.roots == "again" and self.holds_white():
            self.do(("look",))
            self.scan()
        self.do(("end",))
        return self.steps, None


class Schedule(unittest.TestCase):
    def check(self, cycle, parts, program, pace):
        twin, before = cycle.twin(), frozen(parts)
        found = told(schedule(cycle, *parts, pace=pace))
        self.assertEqual(found, Expected(cycle).play(program, pace))
        self.assertEqual(cycle, twin)
        self.assertEqual(parts, before)
        steps, error = found
        self.assertEqual(twin.step(*steps)[:0], ())
        self.assertEqual(twin.phase == "ended", error is None or error == (-1, "phase"))
        return found

    def test_paces(self):
        heap = (1, ((1,), (2,), (None,)))
        cycle = Cycle(heap, 0, None)
        scans = [("scan", x) for x in range(3)]
        moves = [("move", 1, 0), ("clear", 1)]
        for pace, expected in [(0, moves + scans), (1, [moves[0], scans[0], moves[1], *scans[1:]]),
                               (2, [moves[0], *scans[:2], moves[1], scans[2]]), (3, [moves[0], *scans, moves[1]]),
                               (100, [moves[0], *scans, moves[1]])]:
            steps = [("start",), *expected, ("end",)]
            self.assertEqual(list(schedule(cycle, *moves, pace=pace)), steps)
            self.check(cycle, tuple(moves), moves, pace)
        self.assertEqual(list(schedule(cycle, *moves)), list(schedule(cycle, *moves, pace=1)))
        self.assertEqual(list(schedule(cycle=cycle, pace=0)), [("start",), *scans, ("end",)])

    def test_the_least_grey_object_and_its_least_field(self):
        heap = (2, ((None, 2), (None, None), (1, None)))
        self.assertEqual(list(schedule(Cycle(heap, 2, 0))),
                         [("start",), ("scan", 0), ("scan", 2), ("scan", 1), ("end",)])
        self.assertEqual(list(schedule(FieldCycle(heap, 2, 0))), [
            ("start",), ("scan", 0, 0), ("scan", 0, 1), ("scan", 2, 0), ("scan", 1, 0), ("scan", 1, 1), ("scan", 2, 1), ("end",),
        ])
        cycle = FieldCycle(heap, 2, 0)
        cycle.step(("start",), ("scan", 0, 1))
        self.assertEqual(list(schedule(cycle))[:2], [("scan", 0, 0), ("scan", 2, 0)])

    def test_no_scan_when_nothing_is_grey(self):
        cycle = Cycle((1, ()), None)
        self.assertEqual(list(schedule(cycle, pace=100)), [("start",), ("end",)])
        steps = list(schedule(cycle, ("new", 0), ("clear", 0), pace=100))
        self.assertEqual(steps, [("start",), ("new", 0), ("clear", 0), ("end",)])

    def test_looks(self):
        new = ("new", 0)
        for fresh, roots, behind in [
            ("white", "once", []), ("white", "again", [("look",), ("scan", 0)]), ("grey", "again", [("scan", 0)]),
            ("black", "again", []),
        ]:
            cycle = Cycle((1, ()), None, table=Table(fresh=fresh, roots=roots))
            self.assertEqual(list(schedule(cycle, new, pace=0)), [("start",), new, *behind, ("end",)])
        # Without a white object in a register nothing is looked at.
        cycle = Cycle(PAIR, 0, table=Table(roots="again"))
        self.assertEqual(list(schedule(cycle)), [("start",), ("scan", 0), ("scan", 1), ("end",)])
        # The look comes only when all else is scanned, and once.
        heap = (1, ((1,), (2,), (None,)))
        cycle = Cycle(heap, 0, None, table=Table(roots="again"))
        steps = list(schedule(cycle, LOAD, CUT, pace=0))
        self.assertEqual(steps, [("start",), LOAD, CUT, ("scan", 0), ("look",), ("scan", 1), ("scan", 2), ("end",)])

    def test_parts(self):
        cycle = Cycle(PAIR, 0, None)
        expected = list(schedule(cycle, LOAD, CUT, ("clear", 1)))
        for parts in [([LOAD, CUT, ("clear", 1)],), (LOAD, [CUT], ("clear", 1)), ([LOAD], [], [CUT, ("clear", 1)]),
                      ([], LOAD, [CUT], [], ("clear", 1), [])]:
            self.assertEqual(list(schedule(cycle, *parts)), expected)
            self.check(cycle, parts, [LOAD, CUT, ("clear", 1)], 1)
        for parts in [(), ([],), ([], [])]:
            self.assertEqual(list(schedule(cycle, *parts)), list(schedule(cycle)))
        # A list in a list is one step, of no kind, also if it is empty; so is a tuple of steps.
        for parts, index in [(([[LOAD]],), 0), (([LOAD, []],), 1), ((LOAD, [CUT, [CUT]]), 2), (((LOAD, CUT),), 0), (([(LOAD,)],), 0)]:
            steps, error = told(schedule(cycle, *parts))
            self.assertEqual(error, (index, "form"))
            self.assertEqual(steps, expected[:[1, 3, 5][index]])

    def test_refused_steps(self):
        cycle = Cycle(PAIR, 0, None)
        ahead = list(schedule(cycle, LOAD, CUT))[:5]
        for step, reason in [
            (("start",), "form"), (("scan", 0), "form"), (("scan", 1), "form"), (("look",), "form"), (("end",), "form"),
            (("load", 1, 0), "form"), (("load", True, 0, 0), "form"), (("load", -1, 0, 0), "form"), (("store", 0, None, 0), "form"),
            (("move", 0), "form"), (("clear", None), "form"), (("new",), "form"), (("loads", 1, 0, 0), "form"),
            (("load", 2, 0, 0), "register"), (("load", 0, 0, 1), "field"), (("move", 1, 1), "same"), (("store", 2, 9, 0), "register"),
            (("clear", 5), "register"), (("new", 2), "register"), (("store", 0, 1, None), "field"),
        ]:
            self.assertEqual(told(schedule(cycle, LOAD, CUT, step, None)), (ahead, (2, reason)), step)
            self.assertEqual(told(schedule(cycle, [LOAD], [CUT, step], None)), (ahead, (2, reason)), step)
            self.assertEqual(told(schedule(cycle, step)), ([("start",)], (0, reason)))
        for reason, step in [("empty", ("clear", 1)), ("empty", ("load", 0, 1, 0)), ("empty", ("store", 0, 0, 1))]:
            self.assertEqual(told(schedule(cycle, step)), ([("start",)], (0, reason)))
        full = Cycle((1, ((None,),) * 39), 0)
        steps, error = told(schedule(full, ("new", 0), ("new", 0), pace=0))
        self.assertEqual((steps, error), ([("start",), ("new", 0)], (1, "full")))

    def test_any_value(self):
        cycle = Cycle(PAIR, 0, None)
        for thing in ANY:
            before = frozen(thing)
            if type(thing) is list:
                steps, error = told(schedule(cycle, LOAD, [thing]))
            else:
                steps, error = told(schedule(cycle, LOAD, thing))
            self.assertEqual((steps, error), ([("start",), LOAD, ("scan", 0)], (1, "form")))
            self.assertEqual(thing, before)

    def test_phases(self):
        for table in (Table(), Table(fresh="white", roots="again")):
            cycle = Cycle(PAIR, 0, None, table=table)
            self.check(cycle, (LOAD, CUT), [LOAD, CUT], 1)
            cycle.step(("start",))
            self.assertNotIn(("start",), list(schedule(cycle, LOAD)))
            self.check(cycle, (LOAD, CUT), [LOAD, CUT], 1)
            cycle.step(*list(schedule(cycle)))
            self.assertEqual(cycle.phase, "ended")
            for parts in [(), (LOAD,), ([],), (None,), (("end",),)]:
                self.assertEqual(told(schedule(cycle, *parts)), ([], (-1, "phase")))
                self.check(cycle, parts, [None], 1)

    def test_a_cycle_made_by_at(self):
        state = ((1, ((1,), (None,), (None,))), (0, 2), ("grey", "white", "white"), ((), (), ()))
        for table, behind in [(Table(), []), (Table(roots="again"), [("look",), ("scan", 2)])]:
            cycle = Cycle.at(state, table)
            self.assertEqual(list(schedule(cycle)), [("scan", 0), ("scan", 1), *behind, ("end",)])

    def test_chance(self):
        reasons, phases = set(), set()
        for chance in chances(500, 95):
            scanning = chance.choice(("whole", "fields"))
            heap = some_heap(chance, most=4)
            slots = some_registers(chance, heap, chance.randint(1, 3))
            cycle = CLASSES[scanning](heap, *slots, table=some_table(chance))
            for _ in wander(chance, cycle, chance.choice((0, 0, 3, 6))):
                pass
            program, parts = [], []
            while chance.random() < 0.85:
                kinds = chance.choices(("start", "scan", "look", "end") + KINDS, [1] * 4 + [20] * 5)
                some = [step for step in all_steps(scanning, len(slots) + 1, heap[0] + 1, 5) if step[0] in kinds]
                if chance.random() < 0.9:
                    some = [step for step in some if all(n is None or n < max(1, len(slots)) for n in step[1:])] or some
                step = chance.choice(some)
                program.append(step)
                if parts and type(parts[-1]) is list and chance.random() < 0.5:
                    parts[-1].append(step)
                else:
                    parts.append([step] if chance.random() < 0.4 else step)
            _, error = self.check(cycle, tuple(parts), program, chance.choice((0, 1, 1, 2, 3, 100)))
            reasons.add(error if error is None else error[1])
            phases.add(cycle.phase)
        self.assertLessEqual({None, "form", "phase", "register", "same", "empty", "field"}, reasons)
        self.assertEqual(phases, {"ready", "marking", "ended"})
