"""Point 39: what a table needs to keep an invariant."""

import unittest

from shadeguards.entries import ENTRIES
from shadeguards.errors import NoInvariant
from shadeguards.needs import is_kept, missing_needs, needs
from shadeguards.tables import Table
from tests.test_invariants import NO_NAMES
from tests.values import SETTINGS, all_tables, chances, frozen, some_table

NAMES = ("strong", "registers", "held", "paths", "thread")
LIT = (("fresh", "grey"), ("fresh", "black"))
GREY = (("new", "grey"), ("source", "grey"))
BLACK = (("new", "black"), ("source", "black"))
LOAD_WHITE, LOAD_GREY = (("load", "white"),), (("load", "grey"),)
OLD_WHITE, OLD_GREY = (("old", "white"),), (("old", "grey"),)
# The table of point 39; the setting is the number of registers and the scanning.
EXPECTED = {
    ("strong", 1, "whole"): (),
    ("strong", 1, "fields"): (),
    ("strong", 2, "whole"): (BLACK,),
    ("strong", 2, "fields"): (GREY, BLACK),
    ("thread", 1, "whole"): (LIT,),
    ("thread", 1, "fields"): (LIT,),
    ("thread", 2, "whole"): (LIT, OLD_WHITE, OLD_GREY, BLACK),
    ("thread", 2, "fields"): (LIT, OLD_WHITE, OLD_GREY, GREY, BLACK),
}
for setting in SETTINGS:
    EXPECTED[("registers",) + setting] = (LIT, LOAD_GREY)
    EXPECTED[("held",) + setting] = (LIT, LOAD_WHITE, OLD_GREY)
    EXPECTED[("paths",) + setting] = (LIT, OLD_WHITE, OLD_GREY)


def met(table, need):
    return any(color == table.fresh if kind == "fresh" else (kind, color) in table.entries for kind, color in need)


def meeting_all_but(asked, left_out, others):
    """A table that meets each of the needs but the one that is left out; it has the other entries where it can."""
    fresh, entries = "black", list(others)
    for need in asked:
        if need == left_out:
            if need == LIT:
                fresh = "white"
            entries = [entry for entry in entries if entry not in need]
        elif need != LIT:
            entries.append(need[-1])
    return Table(*entries, fresh=fresh)


class Needs(unittest.TestCase):
    def test_each_invariant_in_each_setting(self):
        self.assertEqual(len(EXPECTED), 20)
        for (name, registers, scanning), expected in EXPECTED.items():
            self.assertEqual(needs(name, registers=registers, scanning=scanning), expected)
            self.assertEqual(needs(scanning=scanning, registers=registers, name=name), expected)
        for name in NAMES:
            self.assertEqual(needs(name), EXPECTED[name, 2, "whole"])
            self.assertEqual(needs(name, registers=1), EXPECTED[name, 1, "whole"])
            self.assertEqual(needs(name, scanning="fields"), EXPECTED[name, 2, "fields"])

    def test_more_registers_mean_the_same(self):
        for name in NAMES:
            for scanning in ("whole", "fields"):
                for registers in (2, 3, 6, 7, 10 ** 40):
                    self.assertEqual(needs(name, registers=registers, scanning=scanning), EXPECTED[name, 2, scanning])
                    self.assertEqual(missing_needs(Table.full(), name, registers=registers, scanning=scanning), ())
                    one = Table.empty(fresh="white")
                    self.assertEqual(missing_needs(one, name, registers=registers, scanning=scanning),
                                     EXPECTED[name, 2, scanning])

    def test_kinds(self):
        for found in (needs("strong"), missing_needs(Table(), "strong")):
            self.assertEqual([type(found), type(found[0]), type(found[0][0])], [tuple] * 3)
        self.assertIs(type(needs("strong", registers=1)), tuple)
        self.assertIs(is_kept(Table(), "strong"), False)
        self.assertIs(is_kept(Table(), "strong", registers=1), True)

    def test_all_but_one(self):
        for (name, registers, scanning), asked in EXPECTED.items():
            words = {"registers": registers, "scanning": scanning}
            for others in ([], ENTRIES):
                whole = meeting_all_but(asked, None, others)
                self.assertEqual(missing_needs(whole, name, **words), ())
                self.assertIs(is_kept(whole, name, **words), True)
                for need in asked:
                    table = meeting_all_but(asked, need, others)
                    self.assertEqual(missing_needs(table, name, **words), (need,))
                    self.assertIs(is_kept(table, name, **words), False)

    def test_each_alternative(self):
        for (name, registers, scanning), asked in EXPECTED.items():
            for need in asked:
                others = [one[0] for one in asked if one not in (need, LIT)]
                for kind, color in need:
                    table = Table(*others, fresh=color) if kind == "fresh" else Table((kind, color), *others)
                    self.assertIs(is_kept(table, name, registers=registers, scanning=scanning), True)

    def test_roots_do_not_matter(self):
        for chance in chances(100, 40):
            table = some_table(chance)
            for name, registers, scanning in EXPECTED:
                found = [missing_needs(table.changed(roots=roots), name, registers=registers, scanning=scanning)
                         for roots in Table.ROOTS]
                self.assertEqual(found[0], found[1])

    def test_all_tables(self):
        for table in all_tables():
            for name in NAMES:
                expected = tuple(need for need in EXPECTED[name, 2, "fields"] if not met(table, need))
                self.assertEqual(missing_needs(table, name, scanning="fields"), expected)

    def test_chance(self):
        for chance in chances(800, 41):
            table = some_table(chance)
            for (name, registers, scanning), asked in EXPECTED.items():
                expected = tuple(need for need in asked if not met(table, need))
                self.assertEqual(missing_needs(table, name, registers=registers, scanning=scanning), expected)
                self.assertEqual(missing_needs(table=table, name=name, registers=registers, scanning=scanning), expected)
                self.assertIs(is_kept(table=table, name=name, scanning=scanning, registers=registers), not expected)

    def test_names_that_are_none(self):
        for name in ["screened", "snapshot", "safe", "bounded", "fresh"] + NO_NAMES:
            before = frozen(name)
            for registers, scanning in SETTINGS:
                words = {"registers": registers, "scanning": scanning}
                for deed in [lambda: needs(name, **words), lambda: missing_needs(Table(), name, **words),
                             lambda: is_kept(Table.full(), name, **words)]:
                    with self.assertRaises(NoInvariant) as caught:
                        deed()
                    self.assertIs(caught.exception.name, name)
            self.assertEqual(name, before)
