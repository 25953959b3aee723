"""Points 55 and 56: verdicts."""

import unittest

from shadeguards.judging import check_verdict, judge
from shadeguards.tables import Table
from shadeguards.ways import has_property, ways
from tests.model import has
from tests.test_runchecks import NO_RUNS, RUN
from tests.values import (
    ANY, CLASSES, GOALS, SETTINGS, all_tables, chances, check_goals_that_are_none, reason_of, some_heap, some_registers,
    some_table, wander,
)

NO_VERDICTS = ANY + [
    ("yes",), ("no",), ("yes", "single", "single"), ("no", RUN, RUN), ["yes", "registers"], ["no", RUN], "yes", "no",
    ("Yes", "registers"), ("maybe", RUN), (True, "registers"), (False, RUN), (None, RUN), (("yes",), "registers"),
    (["yes"], "registers"), ({}, RUN), ("", ""), {"yes": "registers"}, {"no": RUN}, ("registers", "yes"), (RUN, "no"),
]


class Judge(unittest.TestCase):
    def test_all_tables(self):
        for table in all_tables():
            for goal in GOALS:
                for registers, scanning in SETTINGS:
                    words = {"registers": registers, "scanning": scanning}
                    verdict = judge(table, goal, **words)
                    self.assertEqual((type(verdict), len(verdict)), (tuple, 2))
                    right = has_property(table, goal, **words)
                    self.assertEqual(verdict[0], "yes" if right else "no")
                    self.assertIs(check_verdict(table, verdict, goal, **words), True)

    def test_the_first_way_that_fits(self):
        for chance in chances(600, 70):
            table = some_table(chance)
            for goal in GOALS:
                for registers, scanning in SETTINGS:
                    words = {"registers": registers, "scanning": scanning}
                    names = [name for needed, barred, fresh, roots, name in ways(goal, **words)
                             if set(needed) <= set(table.entries) and not set(barred) & set(table.entries)
                             and table.fresh in fresh and table.roots in roots]
                    if names:
                        self.assertEqual(judge(table, goal, **words), ("yes", names[0]))
        self.assertEqual(judge(Table.full(roots="again")), ("yes", "strong"))
        self.assertEqual(judge(Table.full()), ("yes", "registers"))
        self.assertEqual(judge(Table(("load", "white"), ("old", "white"), ("old", "grey"))), ("yes", "held"))
        self.assertEqual(judge(Table.full(), "snapshot"), ("yes", "screened"))
        self.assertEqual(judge(Table.full(), registers=1), ("yes", "thread"))

    def test_arguments(self):
        for chance in chances(100, 71):
            table = some_table(chance)
            self.assertEqual(judge(table), judge(scanning="whole", registers=2, goal="safe", table=table))
            for goal in GOALS:
                self.assertEqual(judge(table, goal), judge(table, goal, registers=7, scanning="whole"))
                verdict = judge(table, goal, registers=10 ** 40, scanning="fields")
                self.assertEqual(verdict, judge(table, goal, registers=2, scanning="fields"))
                self.assertIs(check_verdict(scanning="fields", registers=3, goal=goal, verdict=verdict, table=table), True)
            self.assertIs(check_verdict(table, judge(table)), True)

    def test_goals_that_are_none(self):
        check_goals_that_are_none(self, lambda goal: judge(Table(), goal))
        check_goals_that_are_none(self, lambda goal: judge(Table(), goal=goal, registers=1, scanning="fields"))
        for verdict in (("yes", "registers"), ("no", RUN), None, ("yes",)):
            check_goals_that_are_none(self, lambda goal: check_verdict(Table(), verdict, goal))
            check_goals_that_are_none(self, lambda goal: check_verdict(Table(), verdict, registers=1, goal=goal))


class CheckVerdict(unittest.TestCase):
    def reason(self, verdict, *goal, table=Table(), **words):
        return reason_of(self, check_verdict, table, verdict, *goal, **words)

    def test_verdicts_of_no_form(self):
        for goal in GOALS:
            for registers, scanning in SETTINGS:
                for verdict in NO_VERDICTS:
                    self.assertEqual(self.reason(verdict, goal, registers=registers, scanning=scanning), "verdict")

    def test_names(self):
        table = Table(("load", "grey"))
        self.assertIs(check_verdict(table, ("yes", "registers")), True)
        for name in ["held", "strong", "Registers", ["registers"], RUN, None, "safe", ("registers",)] + ANY:
            self.assertEqual(self.reason(("yes", name), table=table), "name")
        self.assertEqual(self.reason(("yes", "registers"), "snapshot", table=table), "name")
        self.assertEqual(self.reason(("yes", "registers"), registers=1, table=table), "name")
        self.assertIs(check_verdict(table, ("yes", "thread"), registers=1), True)
        self.assertIs(check_verdict(table, ("yes", "single"), "bounded", scanning="fields"), True)

    def test_runs(self):
        self.assertIs(check_verdict(Table(), ("no", RUN)), True)
        self.assertIs(check_verdict(Table(), ("no", RUN), "snapshot"), True)
        for run in NO_RUNS + ["registers", None]:
            for goal in GOALS:
                self.assertEqual(self.reason(("no", run), goal), "form")
        self.assertEqual(self.reason(("no", RUN), scanning="fields"), "form")
        self.assertEqual(self.reason(("no", RUN), table=Table(("load", "grey"))), "step")
        self.assertEqual(self.reason(("no", RUN), registers=1), "registers")
        self.assertEqual(self.reason(("no", RUN[:2] + (RUN[2][:3],))), "end")
        self.assertEqual(self.reason(("no", RUN), "bounded"), "bounded")
        harmless = RUN[:2] + ((("start",), ("scan", 0), ("scan", 1), ("end",)),)
        for goal in GOALS:
            self.assertEqual(self.reason(("no", harmless), goal), goal)

    def test_no_run_is_accepted_where_a_name_is(self):
        # The fact of point 56, in runs of chance.
        for chance in chances(300, 72):
            scanning, table = chance.choice(("whole", "fields")), some_table(chance)
            heap = some_heap(chance, most=3, width=chance.choice((1, 2)))
            slots = some_registers(chance, heap, chance.choice((1, 2)))
            cycle = CLASSES[scanning](heap, *slots, table=table)
            for _ in wander(chance, cycle, 16):
                pass
            if cycle.why(("end",)) is None:
                cycle.step(("end",))
            for goal in GOALS:
                if has(table, goal, len(slots), scanning):
                    found = self.reason(("no", (heap, slots, cycle.steps)), goal, table=table, registers=len(slots),
                                        scanning=scanning)
                    self.assertIn(found, ("end", goal))
