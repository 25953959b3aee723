"""Points 11 to 13 and 41: the properties, their ways, and the tables that have them."""

import unittest

from shadeguards.entries import ENTRIES
from shadeguards.tables import Table
from shadeguards.ways import GOALS, fits, has_property, ways
from tests.model import has
from tests.values import SETTINGS, all_tables, chances, check_goals_that_are_none, some_table

# The rows of point 12: needed entries, barred ones, fresh, roots and the name, each written shortly.
COVERED = ["load-grey | | LIT BOTH registers", "load-white old-grey | | LIT BOTH held", "old-white old-grey | | LIT BOTH paths"]
ALONE = ["| | ANY again strong", "| | LIT BOTH thread"]
SNAPSHOT = ["load-grey old-grey | | ANY BOTH screened", "old-white old-grey | | ANY BOTH snapshot"]
BLACK_WHOLE, BLACK_FIELDS = "| source-black | black BOTH single", "| source-grey source-black | black BOTH single"
SHADING = "| load-white old-white new-white source-white"
ROWS = {
    ("safe", 2, "whole"): ["new-black | | ANY again strong", "source-black | | ANY again strong"] + COVERED,
    ("safe", 2, "fields"): [
        "new-grey new-black | | ANY again strong", "new-grey source-black | | ANY again strong",
        "new-black source-grey | | ANY again strong", "source-grey source-black | | ANY again strong",
    ] + COVERED,
    ("safe", 1, "whole"): ALONE,
    ("safe", 1, "fields"): ALONE,
    ("bounded", 2, "whole"): [BLACK_WHOLE],
    ("bounded", 2, "fields"): [BLACK_FIELDS],
    ("bounded", 1, "whole"): [BLACK_WHOLE, SHADING + " source-black | white once single"],
    ("bounded", 1, "fields"): [BLACK_FIELDS, SHADING + " source-grey source-black | white once single"],
}
for setting in SETTINGS:
    ROWS[("snapshot",) + setting] = SNAPSHOT
WORDS = {"ANY": ("white", "grey", "black"), "LIT": ("grey", "black"), "BOTH": ("once", "again")}
MANY = {
    ("safe", 2, "whole"): 16256, ("safe", 2, "fields"): 15008, ("safe", 1, "whole"): 20480, ("safe", 1, "fields"): 20480,
    ("snapshot", 2, "whole"): 9216, ("snapshot", 2, "fields"): 9216,
    ("snapshot", 1, "whole"): 9216, ("snapshot", 1, "fields"): 9216,
    ("bounded", 2, "whole"): 4096, ("bounded", 2, "fields"): 2048,
    ("bounded", 1, "whole"): 4224, ("bounded", 1, "fields"): 2112,
}


def read_way(row):
    """The way that a row writes."""
    needed, barred, rest = [part.split() for part in row.split("|")]
    fresh, roots, name = rest
    entries = [tuple(tuple(word.split("-")) for word in part) for part in (needed, barred)]
    return (*entries, WORDS.get(fresh, (fresh,)), WORDS.get(roots, (roots,)), name)


class Ways(unittest.TestCase):
    def test_goals(self):
        self.assertEqual(GOALS, ("safe", "snapshot", "bounded"))
        self.assertIs(type(GOALS), tuple)

    def test_each_row(self):
        self.assertEqual(len(ROWS), 12)
        for (goal, registers, scanning), rows in ROWS.items():
            expected = tuple(read_way(row) for row in rows)
            self.assertEqual(ways(goal, registers=registers, scanning=scanning), expected)
            self.assertEqual(ways(scanning=scanning, registers=registers, goal=goal), expected)

    def test_settings(self):
        for goal in GOALS:
            self.assertEqual(ways(goal), ways(goal, registers=2, scanning="whole"))
            self.assertEqual(ways(goal, registers=1), ways(goal, registers=1, scanning="whole"))
            for scanning in ("whole", "fields"):
                for registers in (3, 6, 100, 10 ** 40):
                    self.assertEqual(ways(goal, registers=registers, scanning=scanning),
                                     ways(goal, registers=2, scanning=scanning))

    def test_kinds(self):
        for goal, registers, scanning in ROWS:
            found = ways(goal, registers=registers, scanning=scanning)
            self.assertIs(type(found), tuple)
            for way in found:
                self.assertEqual([type(part) for part in way], [tuple] * 4 + [str])
                for entries in way[:2]:
                    self.assertEqual(entries, tuple(entry for entry in ENTRIES if entry in entries))

    def test_goals_that_are_none(self):
        check_goals_that_are_none(self, ways)
        check_goals_that_are_none(self, lambda goal: ways(goal=goal, registers=1, scanning="fields"))
        check_goals_that_are_none(self, lambda goal: has_property(Table(), goal))
        check_goals_that_are_none(self, lambda goal: has_property(Table.full(), registers=1, scanning="fields", goal=goal))


class Fits(unittest.TestCase):
    def test_each_part_alone(self):
        way = ((("load", "white"), ("old", "grey")), (("new", "white"), ("source", "black")), ("grey", "black"), ("again",), "x")
        right = Table(("load", "white"), ("old", "grey"), ("new", "grey"), fresh="grey", roots="again")
        self.assertIs(fits(right, way), True)
        self.assertIs(fits(way=way, table=right.changed(fresh="black")), True)
        self.assertIs(fits(right.changed(fresh="white"), way), False)
        self.assertIs(fits(right.changed(roots="once"), way), False)
        for kind, color in ENTRIES:
            one = Table((kind, color), fresh="grey", roots="again")
            self.assertIs(fits(right - one, way), (kind, color) not in way[0])
            self.assertIs(fits(right | one, way), (kind, color) not in way[1])

    def test_nothing_asked(self):
        anything = ((), (), ("white", "grey", "black"), ("once", "again"), "")
        for chance in chances(50, 45):
            self.assertIs(fits(some_table(chance), anything), True)

    def test_chance(self):
        for chance in chances(300, 46):
            table = some_table(chance)
            for goal, registers, scanning in ROWS:
                for way in ways(goal, registers=registers, scanning=scanning):
                    needed, barred, fresh, roots, _ = way
                    expected = set(needed) <= set(table.entries) and not set(barred) & set(table.entries)
                    self.assertIs(fits(table, way), expected and table.fresh in fresh and table.roots in roots)


class HasProperty(unittest.TestCase):
    def test_all_tables(self):
        many = dict.fromkeys(MANY, 0)
        for table in all_tables():
            for goal, registers, scanning in many:
                found = has_property(table, goal, registers=registers, scanning=scanning)
                self.assertIs(found, has(table, goal, registers, scanning))
                many[goal, registers, scanning] += found
        self.assertEqual(many, MANY)

    def test_what_is_left_out(self):
        for chance in chances(200, 47):
            table = some_table(chance)
            self.assertIs(has_property(table), has(table, "safe", 2, "whole"))
            for goal in GOALS:
                self.assertIs(has_property(table, goal), has(table, goal, 2, "whole"))
                self.assertIs(has_property(goal=goal, table=table, registers=1), has(table, goal, 1, "whole"))
                self.assertIs(has_property(table, goal, scanning="fields"), has(table, goal, 2, "fields"))
                for registers in (3, 7, 10 ** 40):
                    self.assertIs(has_property(table, goal, registers=registers), has(table, goal, 2, "whole"))

    def test_facts_about_more_entries(self):
        for chance in chances(300, 48):
            table = some_table(chance)
            fresh, roots = table.fresh, table.roots
            more = table | some_table(chance, fresh=fresh, roots=roots)
            for registers, scanning in SETTINGS:
                words = {"registers": registers, "scanning": scanning}
                for goal in ("safe", "snapshot"):
                    if has_property(table, goal, **words):
                        self.assertIs(has_property(more, goal, **words), True)
                if has_property(more, "bounded", **words):
                    self.assertIs(has_property(table, "bounded", **words), True)
                if has_property(table.changed(roots="once"), **words):
                    self.assertIs(has_property(table.changed(roots="again"), **words), True)
                if has_property(table, "snapshot", **words) and table.fresh != "white":
                    self.assertIs(has_property(table, "safe", **words), True)
