"""Point 54: runs with more scans than the bound."""

import unittest

from shadeguards.overruns import longer_run, overrun, scan_bound
from shadeguards.runchecks import check_run
from shadeguards.tables import Table
from tests.model import has, played
from tests.values import CLASSES, SETTINGS, chances, some_heap, some_registers, some_table, unlike_tables, wander

NAMED = [("load", "white"), ("old", "white"), ("new", "white"), ("source", "white"), ("source", "grey"), ("source", "black")]


def bound_of(heap, scanning):
    return len(heap[1]) * (heap[0] if scanning == "fields" else 1)


class ScanBound(unittest.TestCase):
    def test_bounds(self):
        for width in range(1, 5):
            for many in (0, 1, 2, 7, 40):
                heap = (width, ((None,) * width,) * many)
                self.assertEqual(scan_bound(heap), many)
                self.assertEqual(scan_bound(heap, scanning="whole"), many)
                self.assertEqual(scan_bound(scanning="fields", heap=heap), many * width)
        self.assertIs(type(scan_bound((1, ()))), int)


class Overruns(unittest.TestCase):
    def check(self, run, table, many, registers, scanning):
        if has(table, "bounded", registers, scanning):
            self.assertIsNone(run)
            return
        heap, slots, steps = run
        self.assertEqual(len(slots), registers)
        self.assertLessEqual(len(heap[1]), 1)
        self.assertIn(heap[0], (1, 2))
        self.assertLessEqual(len(steps), 400)
        model = played(table, run, scanning)
        self.assertLessEqual(len(model.fields), 40)
        scans = len([step for step in steps if step[0] == "scan"])
        self.assertGreaterEqual(scans, max(many, bound_of(heap, scanning) + 1))

    def test_all_tables_of_unlike_kinds(self):
        for table in unlike_tables(*NAMED):
            for registers, scanning in SETTINGS:
                words = {"registers": registers, "scanning": scanning}
                self.check(overrun(table, **words), table, 0, registers, scanning)
                for many in (0, 1, 30):
                    self.check(longer_run(table, many, **words), table, many, registers, scanning)

    def test_any_number_of_scans(self):
        for chance in chances(60, 62):
            table = some_table(chance)
            for registers, scanning in SETTINGS:
                for many in range(31):
                    run = longer_run(table, many, registers=registers, scanning=scanning)
                    self.check(run, table, many, registers, scanning)

    def test_arguments(self):
        for chance in chances(100, 63):
            table, many = some_table(chance), chance.randint(0, 30)
            self.assertEqual(overrun(table), overrun(scanning="whole", registers=2, table=table))
            self.assertEqual(longer_run(table, many), longer_run(scanning="whole", registers=2, many=many, table=table))
            for registers in (2, 3, 10 ** 40):
                for scanning in ("whole", "fields"):
                    self.assertEqual(overrun(table, registers=registers, scanning=scanning),
                                     overrun(table, registers=2, scanning=scanning))
                    self.assertEqual(longer_run(table, many, registers=registers, scanning=scanning),
                                     longer_run(table, many, registers=2, scanning=scanning))

    def test_kinds(self):
        run = overrun(Table(fresh="white"))
        self.assertEqual([type(part) for part in (run, *run, *run[2])], [tuple] * (4 + len(run[2])))

    def test_the_checker_accepts_them(self):
        for chance in chances(200, 64):
            table = some_table(chance)
            for registers, scanning in SETTINGS:
                words = {"registers": registers, "scanning": scanning}
                for run in (overrun(table, **words), longer_run(table, 30, **words)):
                    if run is not None:
                        self.assertIs(check_run(table, run, "bounded", **words), True)

    def test_bounded_tables_have_no_overrun(self):
        # In runs of chance.
        for chance in chances(150, 65):
            scanning = chance.choice(("whole", "fields"))
            heap = some_heap(chance, most=3, width=chance.choice((1, 2)))
            slots = some_registers(chance, heap, chance.choice((1, 1, 2)))
            entries = [entry for entry in some_table(chance).entries if entry not in NAMED]
            fresh = "white" if len(slots) == 1 and chance.random() < 0.7 else "black"
            cycle = CLASSES[scanning](heap, *slots, table=Table(*entries, fresh=fresh))
            self.assertTrue(has(cycle.table, "bounded", len(slots), scanning))
            for _ in wander(chance, cycle, 40):
                self.assertLessEqual(cycle.scans, bound_of(heap, scanning))
