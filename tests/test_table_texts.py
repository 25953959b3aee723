"""Points 68 to 70 as far as they speak of the text of a table: str(table) and Table.read(text)."""

import unittest

from shadeguards.entries import ENTRIES
from shadeguards.errors import ParseError
from shadeguards.tables import Table
from tests.values import ANY, all_tables

ALL = " ".join(f"{kind}-{color}" for kind, color in ENTRIES)

REFUSED = [
    # The first word is a color.
    ("", 0, 0), (" ", 0, 0), ("\n", 0, 0), ("-", 0, 0), ("- once: -", 0, 0), ("red once: -", 0, 0),
    (" black once: -", 0, 0), ("Black once: -", 0, 0), ("blackonce: -", 0, 0), ("once: black -", 0, 0),
    ("red", 0, 0), ("black\tonce: -", 0, 0), ("black: once -", 0, 0), ("red never old", 0, 0), ("black\ronce: -", 0, 0),
    # The second one is the word of the roots with a colon.
    ("black", 0, 1), ("black ", 0, 1), ("black  once: -", 0, 1), ("black once -", 0, 1), ("black once", 0, 1),
    ("black once : -", 0, 1), ("black never: -", 0, 1), ("black once:- old-grey", 0, 1), ("black :once -", 0, 1),
    ("black once:: -", 0, 1), ("black Again: -", 0, 1), ("black - old-grey", 0, 1), ("black : -", 0, 1),
    ("black\nonce: -", 0, 1), ("black once:\t-", 0, 1),
    # Then there is an entry or a dash.
    ("black once:", 0, 2), ("black once: ", 0, 2), ("black once:  -", 0, 2), ("black once:\n-", 0, 2),
    ("black once:  old-grey", 0, 2), ("black once: --", 0, 2), ("black once: none", 0, 2), ("black once: old", 0, 2),
    ("black once: old-red", 0, 2), ("black once: old_grey", 0, 2), ("black once: Old-grey", 0, 2),
    ("black once: old-grey,new-grey", 0, 2), ("black once: grey-old", 0, 2), ("black once: old-", 0, 2),
    ("black once: old - grey", 0, 2), ("black once: move-grey", 0, 2), ("black once: old-grey\t", 0, 2),
    ("black once: -\t", 0, 2), ("black once: loaded-grey", 0, 2), ("black once: old-grey-", 0, 2),
    # A dash stands alone.
    ("black once: - old-grey", 0, 2), ("black once: - ", 0, 2), ("black once: - -", 0, 2), ("black once: - x", 0, 2),
    ("black once: old-grey -", 0, 3), ("black once: old-grey new-grey -", 0, 4), ("black once: - \n", 0, 2),
    # The entries ascend.
    ("black once: old-grey load-white", 0, 3), ("black once: old-grey old-grey", 0, 3),
    ("black once: load-black load-grey load-white", 0, 3), ("black once: load-white new-grey old-black", 0, 4),
    ("black once: old-grey x load-white", 0, 3), ("black once: " + ALL + " source-black", 0, 14),
    ("black once: " + ALL + " load-white", 0, 14), ("black once: load-grey old-grey load-white source-grey", 0, 4),
    # Empty words.
    ("black once: old-grey ", 0, 3), ("black once: old-grey  new-grey", 0, 3), ("black once: " + ALL + " ", 0, 14),
    ("black once: load-grey old-grey ", 0, 4), ("black once: old-grey \nx", 0, 3),
    # One line.
    ("black once: -\n", 1, 0), ("black once: -\nblack once: -", 1, 0), ("black once: old-grey\n\n", 1, 0),
    ("black once: " + ALL + "\n", 1, 0), ("white again: old-grey\n ", 1, 0),
]


class Reading(unittest.TestCase):
    def test_all_texts_there_and_back(self):
        for table in all_tables():
            if str(Table.read(str(table))) != str(table) or Table.read(str(table)) != table:
                self.fail(str(table))

    def test_parts(self):
        table = Table.read("grey again: load-white old-grey")
        self.assertEqual((table.entries, table.fresh, table.roots), ((("load", "white"), ("old", "grey")), "grey", "again"))
        table = Table.read(text="white once: -")
        self.assertEqual((table.entries, table.fresh, table.roots), ((), "white", "once"))
        self.assertIs(type(table), Table)
        self.assertEqual(Table.read("black once: " + ALL), Table.full())

    def test_refused_texts(self):
        for text, line, word in REFUSED:
            with self.subTest(text), self.assertRaises(ParseError) as caught:
                Table.read(text)
            self.assertEqual((caught.exception.line, caught.exception.word), (line, word), text)

    def test_no_strings(self):
        for thing in [*ANY, Table(), ["black once: -"], ("black", "once:", "-")]:
            if not isinstance(thing, str):
                with self.assertRaises(ParseError) as caught:
                    Table.read(thing)
                self.assertEqual((caught.exception.line, caught.exception.word), (0, 0))

    def test_other_strings(self):
        for text, word in [("x" * 4000, 0), ("white", 1), ("grey", 1), ("a\nb", 0), ("black once: " + "x" * 3900, 2)]:
            with self.assertRaises(ParseError) as caught:
                Table.read(text)
            self.assertEqual((caught.exception.line, caught.exception.word), (0, word))

    def test_every_pair_of_entries(self):
        names = ALL.split(" ")
        for first in range(12):
            for second in range(12):
                text = f"white again: {names[first]} {names[second]}"
                if first < second:
                    self.assertEqual(Table.read(text).entries, (ENTRIES[first], ENTRIES[second]))
                else:
                    with self.assertRaises(ParseError) as caught:
                        Table.read(text)
                    self.assertEqual((caught.exception.line, caught.exception.word), (0, 3))
