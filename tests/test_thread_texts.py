"""Point 95: the written forms of threads, thread steps and thread runs."""

import unittest

from shadeguards.formatting import heap_text
from shadeguards.tables import Table
from shadeguards.threadtexts import parse_thread_run, parse_thread_step, thread_run_text, thread_step_text, threads_text
from tests.test_parsing import place_of
from tests.textmodel import due_for, nearly, wrong_place
from tests.threadmodel import all_thread_steps, some_threads
from tests.values import ANY, chances, frozen, some_heap

BIG = 10 ** 29
LARGE = "1" * 30
TOO_LARGE = "1" * 31
STEPS = "\nstart" * 400
NUMBERS = {"load": 4, "store": 4, "move": 3, "clear": 2, "new": 2, "look": 1}

REFUSED_STEPS = [
    ("", 0, 0), (" ", 0, 0), ("-", 0, 0), ("stop", 0, 0), ("Look 0", 0, 0), (" look 0", 0, 0), ("look\t0", 0, 0), ("|", 0, 0), ("\nlook 0", 0, 0),
    ("look", 0, 1), ("look ", 0, 1), ("look -", 0, 1), ("look 0 1", 0, 2), ("look 0 ", 0, 2), ("look 00", 0, 1), ("look x", 0, 1), ("look  0", 0, 1),
    ("load 0 1 0", 0, 4), ("load 0", 0, 2), ("load - 0 0 0", 0, 1), ("load 0 - 0 0", 0, 2), ("load 0 0 0 -", 0, 4), ("load 0 1 0 0 0", 0, 5),
    ("store 0 0 -", 0, 3), ("store 0 0 0", 0, 4), ("store 0 0 - 0", 0, 3), ("store - 0 0 0", 0, 1), ("store 0 0 0 - -", 0, 5), ("store 0 0 0 --", 0, 4),
    ("store 0 0 0 none", 0, 4), ("move 0 1", 0, 3), ("move 0 1 -", 0, 3), ("move 0 1 2 3", 0, 4), ("clear 0", 0, 2), ("clear 0 0 0", 0, 3),
    ("new 0", 0, 2), ("new 0 -", 0, 2), ("new 0 0 ", 0, 3), ("clear 0 " + TOO_LARGE, 0, 2), ("clear " + TOO_LARGE + " x", 0, 1), ("start 0", 0, 1),
    ("end end", 0, 1), ("end ", 0, 1), ("look 0\n", 1, 0), ("look 0\nlook 1", 1, 0), ("start\n\n", 1, 0), ("clear 0 \u00b2", 0, 2), ("look | 0", 0, 1),
]
REFUSED_RUNS = [
    ("", 0, 0), ("1:", 0, 1), ("1: none", 1, 0), ("1: none ", 0, 1), ("1: 1\n- | -", 0, 1), ("1: none\n", 1, 0), ("1: none\n\n", 1, 0),
    # A separator at the beginning, twice, at the end, in one thread alone.
    ("1: none\n|", 1, 0), ("1: none\n| - | -", 1, 0), ("1: none\n- | | -", 1, 2), ("1: none\n- | - | | -", 1, 4), ("1: none\n- |", 1, 2),
    ("1: none\n- | - |", 1, 4), ("1: none\n- - - |", 1, 4), ("1: none\n- | ", 1, 2), ("1: none\n-", 1, 1), ("1: none\n- - -", 1, 3),
    ("1: none\n- ", 1, 1), ("1: none\n- || -", 1, 1), ("1: none\n-|-", 1, 0), ("1: none\n- |-", 1, 1), ("1: none\n-| -", 1, 0), ("1: none\n- / -", 1, 1),
    # A fourth register of a thread, a fifth thread.
    ("1: none\n- - - -", 1, 3), ("1: none\n- | - - - -", 1, 5), ("1: none\n- - - - | -", 1, 3), ("1: none\n- - - x", 1, 3),
    ("1: none\n- | - | - | - | -", 1, 7), ("1: none\n- | - | - | - |", 1, 7), ("1: none\n- | - | - | - - - |", 1, 9), ("1: none\n- - - | - - - | - - - | - - - -", 1, 15),
    # Registers that are none.
    ("1: none\n0 | -", 1, 0), ("1: -\n0 | 1", 1, 2), ("1: -\n1 | 0", 1, 0), ("1: - -\n0 1 2 | 0", 1, 2), ("1: -\n00 | 0", 1, 0), ("1: -\n0 | x", 1, 2),
    ("1: -\n0 | " + LARGE, 1, 2), ("1: -\n0 | -0", 1, 2), ("1: -\nnone | 0", 1, 0), ("1: -\n0  | 0", 1, 1), ("1: -\n0 |  0", 1, 2), ("1: -\n0 | 0 ", 1, 3),
    ("1: -\n 0 | 0", 1, 0), ("1: -\n0 | 0\t", 1, 2), ("1: -\n0,0 | 0", 1, 0),
    # Steps.
    ("1: -\n0 | 0\n", 2, 0), ("1: -\n0 | 0\nlook", 2, 1), ("1: -\n0 | 0\nlook 0\nscan 0 0", 3, 2), ("1: -\n0 | 0\nload 0 0 0", 2, 4),
    ("1: -\n0 | 0\nstart\n\nend", 3, 0), ("1: -\n0 | 0\nstart\n", 3, 0), ("1: -\n0 | 0\nstore 0 0 -", 2, 3), ("1: -\n0 | 0\n|", 2, 0),
    ("1: -\n0 | 0\nlook 0 ", 2, 2),
    ("1: -\n0 | 0" + STEPS + "\nstart", 402, 0), ("1: -\n0 | 0" + STEPS + "\n", 402, 0), ("1: -\n0 | 0" + STEPS + "\nlook x", 402, 0),
    ("1: -\n0 | 0\nx" + STEPS + "\nend", 2, 0), ("1: -\n0 |" + STEPS + "\nend", 1, 2),
]


def some_text(chance, form, scanning):
    """A right text of chance."""
    possible = list(all_thread_steps(scanning, 2, 2, 2, 2))
    if form == "thread step":
        return thread_step_text(chance.choice(possible))
    heap = some_heap(chance, most=chance.choice((2, 12)))
    steps = tuple(chance.choice(possible) for _ in range(chance.randint(0, 4)))
    return thread_run_text((heap, some_threads(chance, heap), steps))


class Forms(unittest.TestCase):
    def test_threads(self):
        for threads, text in [(((0, None), (None,)), "0 - | -"), (((1,), (2,), (None, None, 39)), "1 | 2 | - - 39"),
                              (((None,) * 3,) * 4, "- - - | - - - | - - - | - - -"), (((0,), (0,)), "0 | 0")]:
            self.assertEqual((threads_text(threads), threads_text(threads=threads)), (text, text))

    def test_steps(self):
        cases = [
            (("start",), "start"), (("load", 0, 1, 0, 0), "load 0 1 0 0"), (("store", 3, 0, 0, None), "store 3 0 0 -"),
            (("store", 0, 0, 0, 0), "store 0 0 0 0"), (("move", 1, 2, 3), "move 1 2 3"), (("clear", 1, 5), "clear 1 5"), (("new", 1, 4), "new 1 4"),
            (("scan", 3), "scan 3"), (("look", 2), "look 2"), (("end",), "end"),
        ]
        for step, text in cases + [(("scan", 3, 0), "scan 3 0")]:
            self.assertEqual((thread_step_text(step), thread_step_text(step=step)), (text, text))
        for step, text in cases:
            self.assertEqual(parse_thread_step(text), step)
        self.assertEqual(parse_thread_step("scan 3 0", scanning="fields"), ("scan", 3, 0))

    def test_runs(self):
        run = ((2, ((1, None), (None, None))), ((0, None), (None,), (1,)), (("start",), ("look", 1), ("store", 0, 0, 1, None)))
        text = "2: 1,- -,-\n0 - | - | 1\nstart\nlook 1\nstore 0 0 1 -"
        self.assertEqual((thread_run_text(run), thread_run_text(run=run), parse_thread_run(text)), (text, text, run))
        run = ((3, ()), ((None,), (None,)), ())
        self.assertEqual((thread_run_text(run), parse_thread_run("3: none\n- | -")), ("3: none\n- | -", run))


class ThereAndBack(unittest.TestCase):
    def test_steps(self):
        for scanning in ("whole", "fields"):
            for step in all_thread_steps(scanning, 2, 3, 2, 3):
                self.assertEqual(parse_thread_step(thread_step_text(step), scanning=scanning), step)
                if scanning == "whole":
                    self.assertEqual(parse_thread_step(thread_step_text(step)), step)
            for number in (0, 9, 10, BIG, 10 * BIG - 1):
                for kind, many in [*NUMBERS.items(), ("scan", 2 if scanning == "fields" else 1)]:
                    step = (kind,) + (number,) * many
                    self.assertEqual(thread_step_text(step), " ".join([kind] + [str(number)] * many))
                    self.assertEqual(parse_thread_step(text=thread_step_text(step), scanning=scanning), step)

    def test_runs(self):
        for chance in chances(150, 220):
            scanning = chance.choice(("whole", "fields"))
            possible = list(all_thread_steps(scanning, 2, 2, 2, 2))
            heap = some_heap(chance, most=chance.choice((3, 40)))
            many = chance.choice((0, 1, 5, 400))
            run = (heap, some_threads(chance, heap), tuple(chance.choice(possible) for _ in range(many)))
            before = frozen(run)
            text = thread_run_text(run)
            self.assertEqual(text, "\n".join([heap_text(heap), threads_text(run[1])] + [thread_step_text(step) for step in run[2]]))
            self.assertEqual(parse_thread_run(text, scanning=scanning), run)
            self.assertEqual(parse_thread_run(scanning=scanning, text=text), run)
            self.assertEqual(run, before)

    def test_the_most_of_all(self):
        heap = (4, ((39, None, 0, 7),) * 40)
        run = (heap, ((39, None, 0),) * 4, (("load", 3, 2, 2, 3),) * 400)
        self.assertEqual(parse_thread_run(thread_run_text(run)), run)
        # The registers are counted thread by thread.
        self.assertEqual(parse_thread_run("1: -\n0 0 0 | 0 0 0 | 0")[1], ((0, 0, 0), (0, 0, 0), (0,)))

    def test_nothing_need_exist(self):
        text = "1: none\n- | -\nend\nlook 9\nload 7 7 7 7\nscan 5\nmove 0 3 3"
        self.assertEqual(parse_thread_run(text)[2], (("end",), ("look", 9), ("load", 7, 7, 7, 7), ("scan", 5), ("move", 0, 3, 3)))

    def test_plain_kinds(self):
        run = parse_thread_run("1: - 0\n0 - | 1\nstart\nstore 0 0 0 -")
        self.assertEqual({type(part) for part in (run, *run, *run[0][1], *run[1], *run[2])}, {tuple})
        self.assertEqual({type(part) for registers in run[1] for part in registers}, {int, type(None)})
        for text in (thread_run_text(run), threads_text(run[1]), thread_step_text(run[2][0])):
            self.assertIs(type(text), str)


class Refused(unittest.TestCase):
    def test_texts_that_are_written_out(self):
        for parse, cases in [(parse_thread_step, REFUSED_STEPS), (parse_thread_run, REFUSED_RUNS)]:
            for text, line, word in cases:
                with self.subTest(text=text):
                    self.assertEqual(place_of(parse, text), (line, word))
                    self.assertEqual(place_of(parse, text=text, scanning="whole"), (line, word))

    def test_scans(self):
        for text, whole, fields in [("scan", (0, 1), (0, 1)), ("scan 3", None, (0, 2)), ("scan 3 0", (0, 2), None), ("scan 3 0 0", (0, 2), (0, 3))]:
            self.assertEqual(place_of(parse_thread_step, text), whole)
            self.assertEqual(place_of(parse_thread_step, text, scanning="fields"), fields)
            for scanning, place in [("whole", whole), ("fields", fields)]:
                expected = None if place is None else (3, place[1])
                self.assertEqual(place_of(parse_thread_run, "1: -\n0 | 0\nstart\n" + text, scanning=scanning), expected)

    def test_values_that_are_no_strings(self):
        for thing in [*ANY, Table(), ["look 0"], ("look", 0), b"look 0"]:
            if not isinstance(thing, str):
                before = frozen(thing) if not isinstance(thing, Table) else thing
                for parse in (parse_thread_step, parse_thread_run):
                    self.assertEqual(place_of(parse, thing), (0, 0))
                self.assertEqual(thing, before)

    def test_nearly_right_texts(self):
        for form, parse in [("thread step", parse_thread_step), ("thread run", parse_thread_run)]:
            found, right = set(), 0
            for chance in chances(80, 221):
                scanning = chance.choice(("whole", "fields"))
                for text in nearly(some_text(chance, form, scanning), chance, 12):
                    expected = wrong_place(text, due_for(form, scanning))
                    self.assertEqual(place_of(parse, text, scanning=scanning), expected, (form, scanning, text))
                    found.add(expected)
                    right += expected is None
            self.assertGreater(right, 80)
            self.assertGreater(len(found), 6)
