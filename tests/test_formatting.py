"""Points 68 and 69: the written forms, there and back."""

import unittest

from shadeguards.entries import COLORS, ENTRIES
from shadeguards.formatting import change_text, heap_text, registers_text, run_text, step_text, table_text
from shadeguards.parsing import parse_change, parse_heap, parse_run, parse_step, parse_table
from shadeguards.tables import Table
from tests.model import all_steps
from tests.values import all_tables, chances, frozen, some_heap, some_registers

BIG = 10 ** 29
NUMBERS = (0, 1, 9, 10, 123, BIG, 10 * BIG - 1)


class Forms(unittest.TestCase):
    """The texts as the document describes them, written out."""

    def test_tables(self):
        cases = [
            (Table(("old", "grey"), ("load", "white")), "black once: load-white old-grey"),
            (Table(fresh="white", roots="again"), "white again: -"),
            (Table(("source", "black"), fresh="grey"), "grey once: source-black"),
            (Table.full(roots="again"), "black again: load-white load-grey load-black old-white old-grey old-black"
                                        " new-white new-grey new-black source-white source-grey source-black"),
        ]
        for table, text in cases:
            self.assertEqual(table_text(table), text)
            self.assertEqual(table_text(table=table), str(table))
            self.assertEqual(parse_table(text), table)

    def test_heaps(self):
        cases = [
            ((2, ((1, None), (2, None), (None, None))), "2: 1,- 2,- -,-"), ((2, ()), "2: none"), ((1, ()), "1: none"),
            ((1, ((None,),)), "1: -"), ((1, ((0,),)), "1: 0"), ((4, ((0, None, 0, None),)), "4: 0,-,0,-"),
            ((3, ((1, 1, 1), (None, 0, None))), "3: 1,1,1 -,0,-"),
            ((1, tuple((x,) for x in range(40))), "1: " + " ".join(map(str, range(40)))),
        ]
        for heap, text in cases:
            self.assertEqual(heap_text(heap), text)
            self.assertEqual(heap_text(heap=heap), text)
            self.assertEqual(parse_heap(text), heap)

    def test_registers(self):
        for registers, text in [((0, None, 2), "0 - 2"), ((None,), "-"), ((39,), "39"), ((None,) * 6, "- - - - - -")]:
            self.assertEqual(registers_text(registers), text)
            self.assertEqual(registers_text(registers=registers), text)

    def test_steps(self):
        cases = [
            (("start",), "start"), (("load", 1, 0, 0), "load 1 0 0"), (("store", 0, 0, None), "store 0 0 -"),
            (("store", 0, 0, 0), "store 0 0 0"), (("move", 2, 3), "move 2 3"), (("clear", 5), "clear 5"), (("new", 4), "new 4"),
            (("scan", 3), "scan 3"), (("look",), "look"), (("end",), "end"),
        ]
        for step, text in cases + [(("scan", 3, 0), "scan 3 0")]:
            self.assertEqual(step_text(step), text)
            self.assertEqual(step_text(step=step), text)
        for step, text in cases:
            self.assertEqual(parse_step(text), step)
        self.assertEqual(parse_step("scan 3 0", scanning="fields"), ("scan", 3, 0))

    def test_runs(self):
        run = ((1, ((1,), (None,))), (0, None), (("start",), ("store", 0, 0, None)))
        text = "1: 1 -\n0 -\nstart\nstore 0 0 -"
        self.assertEqual((run_text(run), run_text(run=run), parse_run(text)), (text, text, run))
        run = ((3, ()), (None,), ())
        self.assertEqual((run_text(run), parse_run("3: none\n-")), ("3: none\n-", run))

    def test_changes(self):
        cases = [
            (("add", ("old", "grey")), "add old-grey"), (("remove", ("source", "black")), "remove source-black"),
            (("fresh", "black"), "fresh black"), (("roots", "again"), "roots again"), (("roots", "once"), "roots once"),
        ]
        for change, text in cases:
            self.assertEqual((change_text(change), change_text(change=change)), (text, text))
            self.assertEqual(parse_change(text), change)


class ThereAndBack(unittest.TestCase):
    def test_all_tables(self):
        sizes = set()
        for table in all_tables():
            text = table_text(table)
            sizes.add(len(table))
            if parse_table(text) != table or table_text(parse_table(text)) != text:
                self.fail(text)
        self.assertEqual(sizes, set(range(13)))

    def test_all_entries_and_changes(self):
        for kind, color in ENTRIES:
            table = Table((kind, color))
            self.assertEqual(table_text(table), f"black once: {kind}-{color}")
            self.assertEqual(parse_table(f"black once: {kind}-{color}"), table)
        changes = [(word, entry) for word in ("add", "remove") for entry in ENTRIES]
        changes += [("fresh", color) for color in COLORS] + [("roots", word) for word in ("once", "again")]
        texts = [change_text(change) for change in changes]
        self.assertEqual(len(set(texts)), 29)
        self.assertEqual([parse_change(text) for text in texts], changes)
        self.assertEqual({type(thing) for text in texts for thing in parse_change(text)}, {str, tuple})

    def test_heaps(self):
        for width in (1, 2, 3, 4):
            for many in (0, 1, 2, 10, 11, 39, 40):
                for fields in [(None,) * width, (many - 1,) * width, tuple([0, None, many - 1, None][:width])]:
                    heap = (width, (fields,) * many)
                    self.assertEqual(parse_heap(heap_text(heap)), heap)
        for chance in chances(100, 122):
            heap = some_heap(chance, most=40)
            before = frozen(heap)
            self.assertEqual(parse_heap(heap_text(heap)), heap)
            self.assertEqual(heap, before)

    def test_registers(self):
        for chance in chances(100, 123):
            heap = some_heap(chance, most=40)
            for many in (1, 6):
                run = (heap, some_registers(chance, heap, many), ())
                self.assertEqual(parse_run(run_text(run)), run)
                self.assertEqual(run_text(run), heap_text(heap) + "\n" + registers_text(run[1]))

    def test_steps(self):
        for scanning in ("whole", "fields"):
            for step in all_steps(scanning, 3, 2, 3):
                self.assertEqual(parse_step(step_text(step), scanning=scanning), step)
                if scanning == "whole":
                    self.assertEqual(parse_step(step_text(step)), step)
            for number in NUMBERS:
                for kind, many in [("load", 3), ("store", 3), ("move", 2), ("clear", 1), ("new", 1),
                                   ("scan", 2 if scanning == "fields" else 1)]:
                    step = (kind,) + (number,) * many
                    self.assertEqual(step_text(step), " ".join([kind] + [str(number)] * many))
                    self.assertEqual(parse_step(text=step_text(step), scanning=scanning), step)
        self.assertEqual(step_text(("store", BIG, 0, None)), "store 1" + "0" * 29 + " 0 -")

    def test_runs_of_no_and_of_400_steps(self):
        for scanning in ("whole", "fields"):
            possible = list(all_steps(scanning, 2, 2, 2))
            for many in (0, 1, 2, 399, 400):
                steps = tuple(possible[index % len(possible)] for index in range(many))
                for heap, registers in [((1, ()), (None,)), ((2, ((1, None), (0, 1))), (0, 1, None, 1, 0, None))]:
                    run = (heap, registers, steps)
                    text = run_text(run)
                    self.assertEqual(text.count("\n"), many + 1)
                    self.assertEqual(parse_run(text, scanning=scanning), run)
                    self.assertEqual(parse_run(scanning=scanning, text=text), run)

    def test_plain_kinds(self):
        run = parse_run("2: 1,- -,0\n0 -\nstart\nstore 0 0 -")
        self.assertEqual({type(part) for part in (run, *run, *run[0][1], *run[2])}, {tuple})
        self.assertEqual({type(part) for part in (*run[1], run[0][0], *run[2][1][1:])}, {int, type(None)})
        for text in (run_text(run), heap_text(run[0]), registers_text(run[1]), step_text(run[2][0]), table_text(Table()),
                     change_text(("fresh", "grey"))):
            self.assertIs(type(text), str)
