"""Points 13 and 53: runs after which an old object is white."""

import unittest

from shadeguards.errors import TooMany
from shadeguards.freeing import freeing_run, least_freeing
from shadeguards.searching import search
from shadeguards.tables import Table
from tests.model import has, played, reached
from tests.values import SETTINGS, all_tables, chances, some_table


def expected_length(table):
    """Point 13, word by word."""
    if has(table, "snapshot", 2, "whole"):
        return None
    return 6 if ("old", "grey") in table.entries else 4


class LeastFreeing(unittest.TestCase):
    def test_cases(self):
        for text, expected in [
            ("black once: -", 4), ("white again: load-white load-grey load-black old-white old-black", 4),
            ("grey once: old-grey", 6), ("black again: load-white load-black old-grey old-black", 6),
            ("white once: load-grey old-grey", None), ("black once: old-white old-grey", None),
        ]:
            self.assertEqual(least_freeing(Table.read(text)), expected, text)
            self.assertEqual(least_freeing(table=Table.read(text)), expected, text)

    def test_all_tables(self):
        for table in all_tables():
            self.assertEqual(least_freeing(table), expected_length(table))

    def test_no_small_heap_has_a_shorter_run(self):
        heaps = [(1, ((None,),)), (1, ((1,), (None,))), (1, ((1,), (0,))), (1, ((1,), (2,), (None,)))]
        reasons = set()
        for chance in chances(60, 60):
            table = some_table(chance)
            for heap in heaps:
                for slots in ((0,), (0, None)):
                    try:
                        word, steps = search(table, heap, slots, goal="snapshot", limit=150)
                    except TooMany:
                        continue
                    if word == "found":
                        self.assertGreaterEqual(len(steps), least_freeing(table))
                        reasons.add(len(steps) == least_freeing(table))
        self.assertIn(True, reasons)


class FreeingRun(unittest.TestCase):
    def test_all_tables(self):
        for table in all_tables():
            for registers, scanning in SETTINGS:
                run = freeing_run(table, registers=registers, scanning=scanning)
                if has(table, "snapshot", registers, scanning):
                    self.assertIsNone(run)
                    continue
                heap, slots, steps = run
                self.assertEqual((heap[0], len(slots)), (1, registers))
                self.assertLessEqual(len(heap[1]), 3)
                model = played(table, run, scanning)
                self.assertEqual((model.phase, steps[-1]), ("ended", ("end",)))
                self.assertTrue([x for x in reached(heap[1], slots) if model.colors[x] == "white"])
                if scanning == "whole":
                    self.assertEqual(len(steps), expected_length(table))

    def test_arguments(self):
        for chance in chances(100, 61):
            table = some_table(chance)
            self.assertEqual(freeing_run(table), freeing_run(table, registers=2, scanning="whole"))
            for scanning in ("whole", "fields"):
                for registers in (2, 3, 10 ** 40):
                    self.assertEqual(freeing_run(scanning=scanning, registers=registers, table=table),
                                     freeing_run(table, registers=2, scanning=scanning))

    def test_kinds(self):
        run = freeing_run(Table(("old", "grey")))
        self.assertEqual([type(part) for part in (run, *run, *run[2])], [tuple] * (4 + len(run[2])))
        self.assertIs(type(least_freeing(Table())), int)
