"""Points 13 and 42: least lengths, and runs that lose an object."""

import unittest

from shadeguards.errors import TooMany
from shadeguards.losing import least_length, losing_run
from shadeguards.searching import search
from shadeguards.tables import Table
from tests.model import has, lost_objects, played
from tests.values import SETTINGS, all_tables, chances, some_table, subsets

CASES = [
    ("black once: -", 5), ("grey once: -", 5), ("black once: load-grey", None), ("black once: old-grey", 7),
    ("grey once: old-grey new-black source-black", 7), ("black once: load-white old-white", 5),
    ("black once: load-white old-grey", None), ("grey once: old-white old-grey", None),
    ("white once: -", 3), ("white once: load-white load-grey old-white old-grey", 3),
    ("black again: -", 7), ("grey again: load-white old-white new-grey source-grey", 7), ("black again: old-grey", 9),
    ("black again: new-black", None), ("black again: source-black", None), ("white again: new-black", None),
    ("white again: -", 6), ("white again: load-grey", 6), ("white again: old-grey", 6), ("white again: source-black", None),
    ("black again: load-grey", None),
]


def expected_length(table, registers):
    """Point 13, word by word."""
    if has(table, "safe", registers, "whole"):
        return None
    if registers == 1:
        return 3
    neither = ("load", "grey") not in table.entries and ("old", "grey") not in table.entries
    if table.roots == "once":
        return 3 if table.fresh == "white" else 5 if neither else 7
    return 6 if table.fresh == "white" else 7 if neither else 9


class LeastLength(unittest.TestCase):
    def test_cases(self):
        for text, expected in CASES:
            self.assertEqual(least_length(Table.read(text)), expected, text)
            self.assertEqual(least_length(table=Table.read(text), registers=5), expected, text)
            alone = 3 if text.startswith("white once") else None
            self.assertEqual(least_length(Table.read(text), registers=1), alone, text)

    def test_all_tables(self):
        for table in all_tables():
            self.assertEqual(least_length(table), expected_length(table, 2))
            self.assertEqual(least_length(table, registers=1), expected_length(table, 1))

    def test_no_small_heap_has_a_shorter_run(self):
        heaps = [(1, ()), (1, ((None,),)), (1, ((1,), (None,))), (1, ((1,), (0,))), (1, ((1,), (2,), (None,)))]
        found_least = set()
        for chance in chances(60, 50):
            table = some_table(chance)
            registers = chance.choice((1, 2))
            for heap in heaps:
                held = 0 if heap[1] else None
                slots = (held,) if registers == 1 else (held, None)
                try:
                    word, steps = search(table, heap, slots, extra=1, limit=150)
                except TooMany:
                    continue
                if word == "found":
                    self.assertIsNotNone(least_length(table, registers=registers))
                    self.assertGreaterEqual(len(steps), least_length(table, registers=registers))
                    found_least.add(len(steps) == least_length(table, registers=registers))
        self.assertIn(True, found_least)


class LosingRun(unittest.TestCase):
    def check(self, table, registers, scanning):
        run = losing_run(table, registers=registers, scanning=scanning)
        if has(table, "safe", min(registers, 2), scanning):
            self.assertIsNone(run)
            return
        heap, slots, steps = run
        self.assertEqual(len(slots), 1 if registers == 1 else 2)
        self.assertLessEqual(len(heap[1]), 3)
        self.assertIn(heap[0], (1, 2))
        model = played(table, run, scanning)
        self.assertEqual((model.phase, steps[-1]), ("ended", ("end",)))
        self.assertTrue(lost_objects(model))
        if scanning == "whole":
            self.assertEqual((heap[0], len(steps)), (1, expected_length(table, registers)))

    def test_all_tables(self):
        for table in all_tables():
            for registers, scanning in SETTINGS:
                self.check(table, registers, scanning)

    def test_more_registers(self):
        for chance in chances(100, 51):
            table, scanning = some_table(chance), chance.choice(("whole", "fields"))
            for registers in (2, 3, 6, 10 ** 40):
                self.assertEqual(losing_run(table, registers=registers, scanning=scanning),
                                 losing_run(scanning=scanning, registers=2, table=table))
                self.assertEqual(least_length(table, registers=registers), least_length(table))
            self.assertEqual(losing_run(table), losing_run(table, registers=2, scanning="whole"))

    def test_the_one_way_to_lose_with_one_register(self):
        for scanning in ("whole", "fields"):
            for entries in subsets([("load", "grey"), ("old", "grey"), ("new", "black")]):
                run = losing_run(Table(*entries, fresh="white"), registers=1, scanning=scanning)
                self.assertEqual(run[2], (("start",), ("new", 0), ("end",)))

    def test_kinds(self):
        for table, scanning in [(Table(), "whole"), (Table(("new", "black"), roots="again"), "fields")]:
            run = losing_run(table, scanning=scanning)
            self.assertEqual([type(part) for part in (run, *run, *run[2])], [tuple] * (4 + len(run[2])))
        self.assertIs(type(least_length(Table())), int)
