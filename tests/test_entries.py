"""Points 4, 15 and 16: colors, kinds and entries."""

import itertools
import unittest

from shadeguards.entries import COLORS, ENTRIES, KINDS, is_color, is_entry, sorted_entries
from shadeguards.errors import InvalidEntry
from tests.values import ANY, frozen, without

NONE = [
    ("load", "red"), ("move", "grey"), ("grey", "load"), ("load",), ("load", "grey", "grey"), ["load", "grey"],
    ("Load", "grey"), ("load", "grey "), (("load", "grey"),), ("load", ["grey"]), ("load", None), (["load"], "grey"),
    (True, "grey"), "load-grey", "load", {"load": "grey"}, ({}, {}), ("load", ("grey",)), None, True, 0,
]


class Words(unittest.TestCase):
    def test_orders(self):
        self.assertEqual(COLORS, ("white", "grey", "black"))
        self.assertEqual(KINDS, ("load", "old", "new", "source"))
        self.assertEqual(ENTRIES, tuple(itertools.product(KINDS, COLORS)))
        self.assertEqual(len(ENTRIES), 12)

    def test_kinds_of_values(self):
        self.assertIs(type(COLORS), tuple)
        self.assertIs(type(KINDS), tuple)
        self.assertIs(type(ENTRIES), tuple)
        self.assertEqual({type(entry) for entry in ENTRIES}, {tuple})


class IsColor(unittest.TestCase):
    def test_colors(self):
        for color in ("white", "grey", "black"):
            self.assertIs(is_color(color), True)
            self.assertIs(is_color(thing=color), True)

    def test_others(self):
        for thing in [*without(ANY, "white", "grey"), "red", "gray", "Grey", "grey ", "whit", ("grey",), ["grey"]]:
            before = frozen(thing)
            self.assertIs(is_color(thing), False, thing)
            self.assertEqual(thing, before)


class IsEntry(unittest.TestCase):
    def test_entries(self):
        for entry in ENTRIES:
            self.assertIs(is_entry(entry), True)
            self.assertIs(is_entry(thing=entry), True)
            self.assertIs(is_entry(list(entry)), False)
            self.assertIs(is_entry(entry[::-1]), False)
            self.assertIs(is_entry(entry[:1]), False)
            self.assertIs(is_entry(entry + entry[1:]), False)

    def test_others(self):
        for thing in ANY + NONE:
            before = frozen(thing)
            self.assertIs(is_entry(thing), False, thing)
            self.assertEqual(thing, before)


class SortedEntries(unittest.TestCase):
    def test_none_and_all(self):
        self.assertEqual(sorted_entries(), ())
        self.assertEqual(sorted_entries(*ENTRIES[::-1]), ENTRIES)

    def test_each_once_in_order(self):
        for first, second in itertools.product(ENTRIES, repeat=2):
            expected = tuple(sorted({first, second}, key=ENTRIES.index))
            found = sorted_entries(second, first, second)
            self.assertEqual(found, expected)
            self.assertIs(type(found), tuple)

    def test_first_that_is_none(self):
        for thing in ANY + NONE:
            for before in range(4):
                given = [*ENTRIES[:before], thing, ("old", "grey"), None]
                kept = frozen(given)
                with self.assertRaises(InvalidEntry) as caught:
                    sorted_entries(*given)
                self.assertEqual(caught.exception.index, before)
                self.assertEqual(given, kept)
