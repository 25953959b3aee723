"""Points 69 and 70: what texts write, and the word that is not right."""

import unittest

from shadeguards.errors import ParseError
from shadeguards.formatting import change_text, heap_text, run_text, step_text, table_text
from shadeguards.parsing import parse_change, parse_heap, parse_run, parse_step, parse_table
from shadeguards.tables import Table
from tests.model import all_steps
from tests.test_table_texts import REFUSED as REFUSED_TABLES
from tests.textmodel import due_for, nearly, wrong_place
from tests.values import ANY, chances, frozen, some_heap, some_registers, some_table

PARSERS = {"table": parse_table, "heap": parse_heap, "step": parse_step, "run": parse_run, "change": parse_change}
LARGE = "1" * 30
TOO_LARGE = "1" * 31
FORTY = "1: " + " ".join(["-"] * 40)
STEPS = "\nstart" * 400

REFUSED = {
    "heap": [
        # The width.
        ("", 0, 0), (" ", 0, 0), ("\n", 0, 0), ("-", 0, 0), ("none", 0, 0), ("1", 0, 0), ("0: none", 0, 0), ("5: none", 0, 0),
        ("01: none", 0, 0), ("10: none", 0, 0), ("+1: none", 0, 0), ("1 : -", 0, 0), (" 1: -", 0, 0), ("1:: -", 0, 0), (":1 -", 0, 0),
        ("1;: -", 0, 0), ("1:-", 0, 0), ("1:\t-", 0, 0), ("\u00b2: none", 0, 0), ("-1: none", 0, 0), ("black: none", 0, 0), (": none", 0, 0),
        # An object is missing.
        ("1:", 0, 1), ("4:", 0, 1), ("2:\n-,-", 0, 1), ("1:\n", 0, 1),
        # Empty words.
        ("1: ", 0, 1), ("1:  -", 0, 1), ("1:  none", 0, 1), ("1: - ", 0, 2), ("1: -  -", 0, 2), ("1: - - ", 0, 3), ("1:  ", 0, 1),
        # "none" stands alone.
        ("1: none ", 0, 1), ("1: none none", 0, 1), ("1: none -", 0, 1), ("1: none x", 0, 1), ("1: - none", 0, 2), ("1: 0 none", 0, 2),
        ("1: 2 1 none", 0, 3), ("2: none -,-", 0, 1), ("1: None", 0, 1), ("1: none,", 0, 1), ("1: none  ", 0, 1),
        # The number of fields.
        ("2: -", 0, 1), ("1: -,-", 0, 1), ("2: 1,- 2,-", 0, 2), ("2: -,- -", 0, 2), ("2: -,-,-", 0, 1), ("2: -, -", 0, 1), ("1: ,", 0, 1),
        ("2: ,", 0, 1), ("2: -,", 0, 1), ("2: ,-", 0, 1), ("4: -,-,-", 0, 1), ("3: -,-,- -,-,-,-", 0, 2), ("2: - -", 0, 1), ("1: -;", 0, 1),
        # Indexes that are none.
        ("1: 1", 0, 1), ("1: 0 2", 0, 2), ("1: 1 2 3", 0, 3), ("1: 3 x", 0, 1), ("2: 0,1", 0, 1), ("1: 1 x", 0, 2), ("1: 40", 0, 1),
        ("1: 00", 0, 1), ("1: 01 -", 0, 1), ("1: +0", 0, 1), ("1: -0", 0, 1), ("1: -1", 0, 1), ("1: 0.0", 0, 1), ("1: 1_0", 0, 1),
        ("1: \u0660", 0, 1), ("1: \u00b9 -", 0, 1), ("1: " + LARGE, 0, 1), ("1: " + TOO_LARGE, 0, 1), ("1: --", 0, 1), ("1: 0x0", 0, 1),
        ("1: 0\t", 0, 1), ("1: 0\r", 0, 1), ("1: - 0\u2028", 0, 2), ("1: null", 0, 1),
        # The forty-first object.
        (FORTY + " -", 0, 41), (FORTY + " 40", 0, 41), (FORTY + " - -", 0, 41), (FORTY + " ", 0, 41), (FORTY + " none", 0, 41),
        (FORTY[:-1] + "41 -", 0, 40), (FORTY[:-1] + "40", 0, 40), (FORTY + " x", 0, 41), ("1: x" + FORTY[2:], 0, 1),
        # One line.
        ("1: -\n", 1, 0), ("1: none\n-", 1, 0), ("1: none\n1: none", 1, 0), (FORTY + "\n\n", 1, 0), ("2: -,-\n ", 1, 0), ("1: x\n", 0, 1),
    ],
    "step": [
        ("", 0, 0), (" ", 0, 0), ("-", 0, 0), ("stop", 0, 0), ("Start", 0, 0), (" start", 0, 0), ("start\t", 0, 0), ("0", 0, 0),
        ("starts", 0, 0), ("load,1,0,0", 0, 0), ("start\r", 0, 0), ("\nstart", 0, 0), ("none", 0, 0), ("loads 1 0 0", 0, 0),
        # Numbers.
        ("load - 0 0", 0, 1), ("load 1 - 0", 0, 2), ("load 1 0 -", 0, 3), ("store - 0 -", 0, 1), ("store 0 - -", 0, 2), ("move 0 -", 0, 2),
        ("clear -", 0, 1), ("new -", 0, 1), ("scan -", 0, 1), ("clear 00", 0, 1), ("clear 01", 0, 1), ("clear +1", 0, 1), ("clear -1", 0, 1),
        ("clear 1.0", 0, 1), ("clear x", 0, 1), ("clear 1,", 0, 1), ("clear " + TOO_LARGE, 0, 1), ("clear " + "0" * 30, 0, 1),
        ("clear 1_1", 0, 1), ("clear \u00b2", 0, 1), ("clear \u0663", 0, 1), ("clear 0\n", 1, 0), ("clear None", 0, 1), ("clear 0x1", 0, 1),
        ("load x 0", 0, 1), ("load 0 x", 0, 2), ("load 0 " + TOO_LARGE + " x", 0, 2), ("store 0 0 --", 0, 3), ("store 0 0 none", 0, 3),
        ("move 1 2x", 0, 2), ("scan 1-", 0, 1),
        # Words that are missing.
        ("load", 0, 1), ("load 1", 0, 2), ("load 1 0", 0, 3), ("store 0", 0, 2), ("store 0 0", 0, 3), ("move", 0, 1), ("move 1", 0, 2),
        ("clear", 0, 1), ("new", 0, 1), ("scan", 0, 1), ("load 1\n0 0", 0, 2), ("scan\n", 0, 1),
        # Words too many, and empty ones.
        ("start ", 0, 1), ("end end", 0, 1), ("look 0", 0, 1), ("end -", 0, 1), ("load 1 0 0 0", 0, 4), ("store 0 0 - -", 0, 4),
        ("move 0 1 ", 0, 3), ("clear 0 0", 0, 2), ("new 0 x", 0, 2), ("scan 0 0", 0, 2), ("load  1 0 0", 0, 1), ("load 1  0 0", 0, 2),
        ("load 1 0 ", 0, 3), ("clear ", 0, 1), ("scan 0 ", 0, 2), ("look  ", 0, 1),
        # One line.
        ("start\n", 1, 0), ("start\nstart", 1, 0), ("scan 0\n\n", 1, 0), ("store 0 0 -\nx", 1, 0),
    ],
    "change": [
        ("", 0, 0), (" ", 0, 0), ("-", 0, 0), ("Add old-grey", 0, 0), ("plus old-grey", 0, 0), (" add old-grey", 0, 0), ("old-grey", 0, 0),
        ("add:", 0, 0), ("\nadd old-grey", 0, 0), ("add\told-grey", 0, 0), ("adds old-grey", 0, 0),
        ("add", 0, 1), ("remove", 0, 1), ("fresh", 0, 1), ("roots", 0, 1), ("add ", 0, 1), ("add -", 0, 1), ("add black", 0, 1),
        ("add once", 0, 1), ("add old", 0, 1), ("add old grey", 0, 1), ("add old-red", 0, 1), ("remove grey-old", 0, 1), ("add  old-grey", 0, 1),
        ("fresh red", 0, 1), ("fresh old-grey", 0, 1), ("fresh once", 0, 1), ("fresh -", 0, 1), ("roots black", 0, 1), ("roots once:", 0, 1),
        ("roots never", 0, 1), ("roots ", 0, 1), ("add\nold-grey", 0, 1), ("add old-grey,", 0, 1), ("fresh Black", 0, 1),
        ("add old-grey ", 0, 2), ("add old-grey new-grey", 0, 2), ("fresh black black", 0, 2), ("roots once again", 0, 2), ("fresh grey ", 0, 2),
        ("add old-grey\n", 1, 0), ("roots once\nroots once", 1, 0), ("fresh black\n\n", 1, 0),
    ],
    "run": [
        ("", 0, 0), ("\n", 0, 0), ("x\ny\nz", 0, 0), ("1:", 0, 1), ("1:\n-", 0, 1), ("1: 1\n-", 0, 1), ("1: none \n-", 0, 1),
        # The registers.
        ("1: none", 1, 0), ("1: none\n", 1, 0), ("1: none\n\n", 1, 0), ("1: none\nstart", 1, 0), ("1: none\n0", 1, 0), ("1: -\n1", 1, 0),
        ("1: - -\n0 2", 1, 1), ("1: -\n0 ", 1, 1), ("1: -\n 0", 1, 0), ("1: -\n0  -", 1, 1), ("1: -\n- - - - - - -", 1, 6),
        ("1: -\n0 0 0 0 0 0 ", 1, 6), ("1: -\n0 0 0 0 0 0 x", 1, 6), ("1: -\n0 0 x 0 0 0 0", 1, 2), ("1: -\nnone", 1, 0), ("1: -\n00", 1, 0),
        ("1: -\n-0", 1, 0), ("1: -\n0,0", 1, 0), ("1: -\n" + LARGE, 1, 0), ("1: -\n" + TOO_LARGE, 1, 0), ("1: -\n0 | -", 1, 1),
        ("1: -\n1\nx", 1, 0), (FORTY + "\n39 40", 1, 1), (FORTY + " -\n40", 0, 41),
        # The steps.
        ("1: -\n0\n", 2, 0), ("1: -\n0\nstart\n", 3, 0), ("1: -\n0\nstart\n\nend", 3, 0), ("1: -\n0\n start", 2, 0), ("1: -\n0\nstart ", 2, 1),
        ("1: -\n0\nstart\nscan 0 0", 3, 2), ("1: -\n0\nstart\nload 1 0", 3, 3), ("1: -\n0\nscan\nx", 2, 1), ("1: -\n0\nstart\nscan 01", 3, 1),
        ("1: -\n0\nstart end", 2, 1), ("1: -\n0\n0", 2, 0), ("1: -\n0\nlook 1", 2, 1), ("1: -\n0\nload 0 0 0 0", 2, 4),
        ("1: -\n0\nstore 0 0 - -", 2, 4),
        # The four hundred and first step.
        ("1: -\n0" + STEPS + "\nstart", 402, 0), ("1: -\n0" + STEPS + "\n", 402, 0), ("1: -\n0" + STEPS + "\nscan x", 402, 0),
        ("1: -\n0" + STEPS + "\nend end", 402, 0), ("1: -\n0" + STEPS + STEPS, 402, 0), ("1: -\n0\nx" + STEPS + "\nend", 2, 0),
        ("1: -\n0" + STEPS[:-5] + "x\nstart", 401, 0),
    ],
    "table": REFUSED_TABLES,
}


def place_of(parse, *args, **words):
    """The line and the word of the error, or None."""
    try:
        parse(*args, **words)
    except ParseError as error:
        return error.line, error.word
    return None


def texts(form, chance, scanning):
    """A right text of chance."""
    heap = some_heap(chance, most=chance.choice((3, 12)))
    possible = list(all_steps(scanning, 2, 2, 2))
    if form == "table":
        return table_text(some_table(chance))
    if form == "heap":
        return heap_text(heap)
    if form == "step":
        return step_text(chance.choice(possible))
    if form == "change":
        return change_text(chance.choice([("add", chance.choice([("old", "grey"), ("load", "white")])), ("remove", ("source", "black")),
                                          ("fresh", "grey"), ("roots", "once")]))
    steps = tuple(chance.choice(possible) for _ in range(chance.randint(0, 5)))
    return run_text((heap, some_registers(chance, heap), steps))


class Refused(unittest.TestCase):
    def test_texts_that_are_written_out(self):
        for form, cases in REFUSED.items():
            for text, line, word in cases:
                with self.subTest(form=form, text=text):
                    self.assertEqual(place_of(PARSERS[form], text), (line, word))
                    self.assertEqual(place_of(PARSERS[form], text=text), (line, word))

    def test_scans(self):
        for text, whole, fields in [("scan", (0, 1), (0, 1)), ("scan 3", None, (0, 2)), ("scan 3 0", (0, 2), None), ("scan 3 0 0", (0, 2), (0, 3)),
                                    ("scan x 0", (0, 1), (0, 1)), ("scan 3 -", (0, 2), (0, 2)), ("scan 3 ", (0, 2), (0, 2)),
                                    ("scan  3", (0, 1), (0, 1))]:
            self.assertEqual(place_of(parse_step, text), whole)
            self.assertEqual(place_of(parse_step, text, scanning="whole"), whole)
            self.assertEqual(place_of(parse_step, text, scanning="fields"), fields)
            for scanning, place in [("whole", whole), ("fields", fields)]:
                expected = None if place is None else (3, place[1])
                self.assertEqual(place_of(parse_run, "1: -\n0\nstart\n" + text, scanning=scanning), expected)

    def test_values_that_are_no_strings(self):
        things = [*ANY, Table(), ["start"], ("start",), {"1: none": 1}, b"start", 1.5]
        for parse in (*PARSERS.values(), Table.read):
            for thing in things:
                if not isinstance(thing, str):
                    before = frozen(thing) if not isinstance(thing, Table) else thing
                    self.assertEqual(place_of(parse, thing), (0, 0))
                    self.assertEqual(thing, before)

    def test_strings_of_any_kind(self):
        for thing in ANY:
            if isinstance(thing, str):
                for form, parse in PARSERS.items():
                    self.assertEqual(place_of(parse, thing), wrong_place(thing, due_for(form)), (form, thing))

    def test_numbers(self):
        # With 30 digits a number of a step is right; with 31, or with a zero ahead, it is not.
        self.assertEqual(parse_step("clear " + LARGE), ("clear", int(LARGE)))
        self.assertEqual(parse_step("clear " + "9" * 30), ("clear", 10 ** 30 - 1))
        self.assertEqual(parse_step("clear 0"), ("clear", 0))
        for word in [TOO_LARGE, "0" + LARGE, "00", "0" * 31, "1" + "0" * 30]:
            self.assertEqual(place_of(parse_step, "clear " + word), (0, 1))

    def test_nearly_right_texts(self):
        for form, parse in PARSERS.items():
            found, right = set(), 0
            for chance in chances(60, 124):
                scanning = chance.choice(("whole", "fields")) if form in ("step", "run") else "whole"
                words = {"scanning": scanning} if form in ("step", "run") else {}
                for text in nearly(texts(form, chance, scanning), chance, 12):
                    expected = wrong_place(text, due_for(form, scanning))
                    self.assertEqual(place_of(parse, text, **words), expected, (form, scanning, text))
                    found.add(expected)
                    right += expected is None
                    if form == "table":
                        self.assertEqual(place_of(Table.read, text), expected)
            self.assertGreater(right, 60)
            self.assertGreater(len(found), 4)


class Right(unittest.TestCase):
    def test_nothing_need_exist(self):
        run = ((1, ()), (None,), (("end",), ("load", 9, 9, 9), ("scan", 77), ("move", 3, 3), ("start",)))
        self.assertEqual(parse_run("1: none\n-\nend\nload 9 9 9\nscan 77\nmove 3 3\nstart"), run)

    def test_read(self):
        self.assertEqual(Table.read("grey again: load-white"), Table(("load", "white"), fresh="grey", roots="again"))
        self.assertEqual(parse_table(text="grey again: load-white"), Table.read(text="grey again: load-white"))
        self.assertIs(type(parse_table("grey again: -")), Table)

    def test_by_name(self):
        self.assertEqual(parse_heap(text="1: none"), (1, ()))
        self.assertEqual(parse_change(text="add new-black"), ("add", ("new", "black")))
        self.assertEqual(parse_step(scanning="fields", text="scan 1 2"), ("scan", 1, 2))
