"""Points 43 to 45: what runs and names show."""

import unittest

from shadeguards.cycles import Cycle
from shadeguards.fieldcycles import FieldCycle
from shadeguards.losing import losing_run
from shadeguards.runchecks import check_name, check_run, play
from shadeguards.tables import Table
from shadeguards.ways import ways
from tests.model import has, lost_objects, reached, start_model
from tests.values import (
    ANY, CLASSES, GOALS, SETTINGS, all_tables, chances, check_goals_that_are_none, reason_of, some_heap, some_registers,
    some_table, wander,
)

HEAP = (1, ((1,), (None,)))
STEPS = (("start",), ("load", 1, 0, 0), ("store", 0, 0, None), ("scan", 0), ("end",))
RUN = (HEAP, (0, None), STEPS)
# Values that are no runs, each for one reason, beside a goal, a setting and a table for which any of them could be one.
NO_RUNS = ANY + [
    (HEAP, (0, None)), RUN + ((),), list(RUN), [HEAP, (0, None), STEPS], {0: RUN},
    ((1, ((2,), (None,))), (0, None), STEPS), ((5, ()), (None,), ()), ((1, [[1], [None]]), (0, None), STEPS), (None, (0,), ()),
    (HEAP, [0, None], STEPS), (HEAP, (), STEPS), (HEAP, (0,) * 7, ()), (HEAP, (2, None), STEPS), (HEAP, (True, None), STEPS),
    (HEAP, 0, STEPS), (HEAP, (0, None), list(STEPS)), (HEAP, (0, None), None), (HEAP, (0, None), (None,)),
    (HEAP, (0, None), ("start",)), (HEAP, (0, None), STEPS[:1] + (["end"],)), (HEAP, (0, None), STEPS[:3] + (("scan", True),)),
    (HEAP, (0, None), (("start",), ("scan", -1))), (HEAP, (0, None), (("start", 0),)), (HEAP, (0, None), (("go",),)),
    (HEAP, (0, None), (("start",), ("end",), ())),
]


def moves(many):
    """Steps of which there are so many, `start` among them."""
    return (("start",),) + (("move", 1, 0),) * (many - 1)


class Play(unittest.TestCase):
    def reason(self, run, table=Table(), **words):
        return reason_of(self, play, table, run, **words)

    def test_the_cycle(self):
        table = Table(("old", "grey"))
        cycle = play(table, (HEAP, (0, None), STEPS[:4]))
        expected = Cycle(HEAP, 0, None, table=table)
        expected.step(*STEPS[:4])
        self.assertEqual(cycle, expected)
        self.assertIs(type(cycle), Cycle)
        self.assertEqual((cycle.steps, cycle.phase, cycle.old, cycle.begun), (STEPS[:4], "marking", (0, 1), 2))
        self.assertEqual(cycle.undo(4), STEPS[3::-1])
        self.assertEqual(play(scanning="whole", run=RUN, table=Table()).lost, (1,))

    def test_fields(self):
        run = (HEAP, (0, None), STEPS[:3] + (("scan", 0, 0), ("end",)))
        cycle = play(Table(), run, scanning="fields")
        self.assertIs(type(cycle), FieldCycle)
        self.assertEqual((cycle.lost, cycle.phase), ((1,), "ended"))
        self.assertEqual(self.reason(run), "form")
        self.assertEqual(self.reason(RUN, scanning="fields"), "form")

    def test_no_steps(self):
        cycle = play(Table(), (HEAP, (0,), ()))
        self.assertEqual((cycle.phase, cycle.steps), ("ready", ()))

    def test_form(self):
        for run in NO_RUNS:
            for scanning in ("whole", "fields"):
                self.assertEqual(self.reason(run, scanning=scanning), "form", run)

    def test_length(self):
        cycle = play(Table(), (HEAP, (0, None), moves(400)))
        self.assertEqual(len(cycle.steps), 400)
        self.assertEqual(self.reason((HEAP, (0, None), moves(401))), "form")
        # The four hundred and first step decides also where an earlier one is refused.
        self.assertEqual(self.reason((HEAP, (0, None), (("end",),) * 401)), "form")
        self.assertEqual(self.reason((HEAP, (0, None), (("end",),) * 400)), "step")

    def test_step(self):
        for at in range(len(STEPS) + 1):
            steps = STEPS[:at] + (("move", 0, 0),) + STEPS[at:]
            self.assertEqual(self.reason((HEAP, (0, None), steps)), "step")
            # Form is asked of all steps before any of them is performed.
            self.assertEqual(self.reason((HEAP, (0, None), steps + (("stop",),))), "form")
        self.assertEqual(self.reason(RUN, Table(("load", "grey"))), "step")
        for step in [("load", 2, 0, 0), ("load", 0, 0, 1), ("scan", 2), ("look",), ("clear", 1)]:
            self.assertEqual(self.reason((HEAP, (0, None), (("start",), step))), "step")


class CheckName(unittest.TestCase):
    def reason(self, table, name, *goal, **words):
        return reason_of(self, check_name, table, name, *goal, **words)

    def test_every_name_of_every_kind_of_table(self):
        for index, table in enumerate(all_tables()):
            if index % 7:
                continue
            for goal in GOALS:
                registers, scanning = SETTINGS[index // 7 % 4]
                words = {"registers": registers, "scanning": scanning}
                right = {way[4] for way in ways(goal, **words)
                         if set(way[0]) <= set(table.entries) and not set(way[1]) & set(table.entries)
                         and table.fresh in way[2] and table.roots in way[3]}
                self.assertIs(bool(right), has(table, goal, registers, scanning))
                for name in ("strong", "registers", "held", "paths", "thread", "screened", "snapshot", "single", "safe"):
                    if name in right:
                        self.assertIs(check_name(table, name, goal, **words), True)
                    else:
                        self.assertEqual(self.reason(table, name, goal, **words), "name")

    def test_any_of_several_ways_of_one_name(self):
        for entry in ("new", "source"):
            self.assertIs(check_name(Table((entry, "black"), roots="again"), "strong"), True)
        self.assertEqual(self.reason(Table(("new", "black")), "strong"), "name")
        self.assertIs(check_name(goal="bounded", registers=1, name="single", table=Table(fresh="white")), True)
        self.assertEqual(self.reason(Table(fresh="white"), "single", "bounded"), "name")

    def test_any_value(self):
        table = Table.full(roots="again")
        for name in ["Strong", "strong ", ("strong",), ["strong"], {"strong": 1}, "thread"] + ANY:
            for goal in GOALS:
                self.assertEqual(self.reason(table, name, goal), "name")
        self.assertIs(check_name(table, "strong"), True)
        self.assertIs(check_name(table, "thread", registers=1), True)

    def test_settings(self):
        table = Table(("new", "black"), roots="again")
        self.assertIs(check_name(table, "strong", "safe"), True)
        self.assertIs(check_name(table, "strong", registers=10 ** 40), True)
        self.assertEqual(self.reason(table, "strong", scanning="fields"), "name")
        self.assertIs(check_name(table, "strong", registers=1, scanning="fields"), True)

    def test_goals_that_are_none(self):
        check_goals_that_are_none(self, lambda goal: check_name(Table(), "strong", goal))
        check_goals_that_are_none(self, lambda goal: check_name(Table(), None, goal=goal, registers=1, scanning="fields"))


class CheckRun(unittest.TestCase):
    def reason(self, run, *goal, table=Table(), **words):
        return reason_of(self, check_run, table, run, *goal, **words)

    def test_right_ones(self):
        self.assertIs(check_run(Table(), RUN), True)
        self.assertIs(check_run(scanning="whole", registers=9, goal="safe", run=RUN, table=Table()), True)
        self.assertIs(check_run(Table(), RUN, "snapshot"), True)
        self.assertIs(check_run(Table(), (HEAP, (0,), STEPS[:1] + STEPS[2:]), "snapshot", registers=1), True)
        self.assertIs(check_run(Table(fresh="white"), ((1, ()), (None,), (("start",), ("new", 0), ("end",))), registers=1), True)
        six = ((2, ((0, 1), (None, None))), (0, None, None, 0, None, 0), (("start",), ("load", 4, 0, 1), ("store", 0, 1, None),
                                                                         ("scan", 0), ("end",)))
        self.assertIs(check_run(Table(), six), True)

    def test_form_and_step(self):
        for goal in GOALS:
            for registers, scanning in SETTINGS:
                for run in NO_RUNS:
                    self.assertEqual(self.reason(run, goal, registers=registers, scanning=scanning), "form")
                # One register or two, without an end, nothing shown: the step comes first.
                for slots in ((0,), (0, None)):
                    for steps in ((("end",),), (("start",), ("start",)), (("start",), ("clear", 1))):
                        run = (HEAP, slots, steps)
                        self.assertEqual(self.reason(run, goal, registers=registers, scanning=scanning), "step")
        self.assertEqual(self.reason((HEAP, (0, None), moves(401)), "bounded"), "form")
        self.assertEqual(self.reason((HEAP, (0, None), moves(400)), "bounded"), "bounded")
        self.assertEqual(self.reason((HEAP, (0, None), moves(400))), "end")

    def test_registers(self):
        one = ((1, ()), (None,), (("start",), ("new", 0), ("end",)))
        two = ((1, ()), (None, None), one[2])
        table = Table(fresh="white")
        for registers in (2, 3, 6, 100):
            self.assertEqual(self.reason(one, table=table, registers=registers), "registers")
            self.assertIs(check_run(table, two, registers=registers), True)
            self.assertIs(check_run(table, ((1, ()), (None,) * 6, one[2]), registers=registers), True)
        self.assertEqual(self.reason(two, table=table, registers=1), "registers")
        for goal in GOALS:
            # Beside each later reason.
            for steps in ((), (("start",),), (("start",), ("end",))):
                self.assertEqual(self.reason(((1, ()), (None,), steps), goal), "registers")
                self.assertEqual(self.reason(((1, ()), (None, None), steps), goal, registers=1), "registers")

    def test_end(self):
        for goal in ("safe", "snapshot"):
            for many in range(5):
                self.assertEqual(self.reason((HEAP, (0, None), STEPS[:many]), goal), "end")
        for many in range(2):
            self.assertEqual(self.reason((HEAP, (0, None), STEPS[:many]), "bounded"), "bounded")

    def test_what_is_not_shown(self):
        harmless = (HEAP, (0, None), (("start",), ("scan", 0), ("scan", 1), ("end",)))
        for goal in GOALS:
            self.assertEqual(self.reason(harmless, goal), goal)
        # The old object 1 is freed, but no register reaches it.
        freed = (HEAP, (0, None), (("start",), ("store", 0, 0, None), ("scan", 0), ("end",)))
        self.assertEqual(self.reason(freed), "safe")
        self.assertIs(check_run(Table(), freed, "snapshot"), True)
        # A new object is lost, but it was not old.
        lost = ((1, ()), (None, None), (("start",), ("new", 0), ("end",)))
        self.assertIs(check_run(Table(fresh="white"), lost), True)
        self.assertEqual(self.reason(lost, "snapshot", table=Table(fresh="white")), "snapshot")
        # A white object that was never reachable.
        apart = ((1, ((None,), (None,))), (0, None), (("start",), ("scan", 0), ("end",)))
        for goal in GOALS:
            self.assertEqual(self.reason(apart, goal), goal)

    def test_bounds(self):
        table = Table(("source", "black"))
        again = (("scan", 0), ("store", 0, 0, None))
        for many in range(5):
            steps = (("start",),) + again * many
            run = ((1, ((None,),)), (0, None), steps)
            if many > 1:
                self.assertIs(check_run(table, run, "bounded"), True)
                self.assertIs(check_run(table, run[:2] + (steps + (("scan", 0), ("end",)),), "bounded"), True)
            else:
                self.assertEqual(self.reason(run, "bounded", table=table), "bounded")
            # Two objects of the width 4.
            wide = ((4, ((None,) * 4,) * 2), (0, None), steps)
            if many > 2:
                self.assertIs(check_run(table, wide, "bounded"), True)
            else:
                self.assertEqual(self.reason(wide, "bounded", table=table), "bounded")
        fielded = Table(("source", "grey"))
        for many in range(7):
            steps = (("start",),) + (("scan", 0, 0), ("store", 0, 0, None)) * many
            run = ((2, ((None,) * 2,) * 2), (0,), steps)
            if many > 4:
                self.assertIs(check_run(fielded, run, "bounded", registers=1, scanning="fields"), True)
            else:
                self.assertEqual(self.reason(run, "bounded", table=fielded, registers=1, scanning="fields"), "bounded")
        # New objects do not raise the bound.
        new = ((1, ()), (None,), (("start",), ("new", 0), ("scan", 0)))
        self.assertIs(check_run(Table(fresh="grey"), new, "bounded", registers=1), True)
        self.assertEqual(self.reason((new[0], new[1], new[2][:2]), "bounded", table=Table(fresh="grey"), registers=1), "bounded")

    def test_goals_that_are_none(self):
        for run in (RUN, None, (HEAP, (0,), (("end",),))):
            check_goals_that_are_none(self, lambda goal: check_run(Table(), run, goal))
            check_goals_that_are_none(self, lambda goal: check_run(Table(), run, registers=1, scanning="fields", goal=goal))

    def test_runs_of_other_tables(self):
        # A run that shows something of one table, and the first reason for which it shows nothing of another one.
        for chance in chances(400, 52):
            first, second = some_table(chance), some_table(chance)
            for registers, scanning in SETTINGS:
                run = losing_run(first, registers=registers, scanning=scanning)
                if run is None:
                    continue
                model = start_model(second, run[0], run[1], scanning)
                expected = None
                for step in run[2]:
                    if model.why(step) is not None:
                        expected = "step"
                        break
                    model.do(step)
                if expected is None and not lost_objects(model):
                    expected = "safe"
                words = {"registers": registers, "scanning": scanning}
                if expected is None:
                    self.assertIs(check_run(second, run, **words), True)
                else:
                    self.assertEqual(self.reason(run, table=second, **words), expected)

    def test_chance(self):
        seen = set()
        for chance in chances(500, 53):
            scanning, table = chance.choice(("whole", "fields")), some_table(chance)
            heap = some_heap(chance, most=3, width=chance.choice((1, 2)))
            slots = some_registers(chance, heap, chance.randint(1, 3))
            cycle = CLASSES[scanning](heap, *slots, table=table)
            for _ in wander(chance, cycle, 14):
                pass
            if ("end",) in list(cycle.moves()):
                cycle.step(("end",))
            run = (heap, slots, cycle.steps)
            bound = len(heap[1]) * (heap[0] if scanning == "fields" else 1)
            white = {x for x, color in enumerate(cycle.colors) if color == "white"}
            shown = {"safe": white & reached(cycle.heap[1], cycle.registers), "snapshot": white & set(cycle.old),
                     "bounded": cycle.scans > bound}
            for goal in GOALS:
                for registers in (1, 2, 3):
                    reason = None
                    if (registers == 1) != (len(slots) == 1):
                        reason = "registers"
                    elif goal != "bounded" and cycle.phase != "ended":
                        reason = "end"
                    elif not shown[goal]:
                        reason = goal
                    seen.add((goal, reason))
                    words = {"registers": registers, "scanning": scanning}
                    if reason is None:
                        self.assertIs(check_run(table, run, goal, **words), True)
                        self.assertIs(has(table, goal, min(registers, 2), scanning), False)
                    else:
                        self.assertEqual(self.reason(run, goal, table=table, **words), reason)
        self.assertEqual(len(seen), 11)
