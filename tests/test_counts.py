"""Points 62 and 63: numbers of tables, and tables without an entry too many."""

import unittest

from shadeguards.counts import count_tables, minimal_tables
from shadeguards.entries import COLORS, ENTRIES
from shadeguards.tables import Table
from tests.model import has
from tests.test_ways import MANY
from tests.values import GOALS, SETTINGS, all_tables, chances, check_goals_that_are_none, frozen

ROOTS = ("once", "again")


def known():
    """For each goal and setting the tables that have the property, as triples."""
    found = {(goal, *setting): [] for goal in GOALS for setting in SETTINGS}
    for table in all_tables():
        parts = (frozenset(table.entries), table.fresh, table.roots)
        for goal, registers, scanning in found:
            if has(table, goal, registers, scanning):
                found[goal, registers, scanning].append(parts)
    return found


class CountTables(unittest.TestCase):
    @classmethod
    def setUpClass(cls):
        cls.known = known()

    def test_all(self):
        for (goal, registers, scanning), many in MANY.items():
            self.assertEqual(count_tables(goal, registers=registers, scanning=scanning), many)
            self.assertEqual(len(self.known[goal, registers, scanning]), many)

    def test_fresh_and_roots(self):
        for (goal, registers, scanning), tables in self.known.items():
            for fresh in (None, *COLORS):
                for roots in (None, *ROOTS):
                    expected = len([1 for _, color, word in tables if fresh in (None, color) and roots in (None, word)])
                    self.assertEqual(count_tables(goal, fresh=fresh, roots=roots, registers=registers, scanning=scanning), expected)

    def test_chance(self):
        for chance in chances(300, 90):
            goal, registers, scanning = key = chance.choice(list(self.known))
            include = tuple(chance.choice(ENTRIES) for _ in range(chance.choice((0, 1, 2, 3, 5))))
            exclude = tuple(chance.choice(ENTRIES) for _ in range(chance.choice((0, 1, 2, 3, 5))))
            fresh, roots = chance.choice((None, None, *COLORS)), chance.choice((None, None, *ROOTS))
            expected = len([
                1 for entries, color, word in self.known[key] if set(include) <= entries and not entries & set(exclude)
                and fresh in (None, color) and roots in (None, word)
            ])
            before = frozen((include, exclude))
            words = {"include": include, "exclude": exclude, "fresh": fresh, "roots": roots, "scanning": scanning}
            self.assertEqual(count_tables(goal, registers=registers, **words), expected)
            self.assertEqual(count_tables(registers=registers, goal=goal, **words), expected)
            if registers == 2:
                self.assertEqual(count_tables(goal, registers=10 ** 40, **words), expected)
                self.assertEqual(count_tables(goal, **words), expected)
            self.assertEqual((include, exclude), before)

    def test_one_entry_in_both(self):
        for goal in GOALS:
            for entry in ENTRIES:
                for include, exclude in [((entry,), (entry,)), (ENTRIES, (entry,)), ((entry, entry), ENTRIES[::-1])]:
                    self.assertEqual(count_tables(goal, include=include, exclude=exclude), 0)
                self.assertEqual(count_tables(goal, include=(entry,)) + count_tables(goal, exclude=(entry,)), count_tables(goal))

    def test_all_entries_given(self):
        self.assertEqual(count_tables("safe", include=ENTRIES), 5)
        self.assertEqual(count_tables("safe", include=ENTRIES[::-1] * 2, roots="once"), 2)
        self.assertEqual(count_tables("safe", exclude=ENTRIES), 0)
        self.assertEqual(count_tables("bounded", exclude=ENTRIES * 2), 2)
        self.assertIs(type(count_tables("safe")), int)

    def test_goals_that_are_none(self):
        check_goals_that_are_none(self, count_tables)
        check_goals_that_are_none(self, lambda goal: count_tables(goal=goal, include=ENTRIES, exclude=ENTRIES, fresh="white",
                                                                  roots="once", registers=1, scanning="fields"))


class MinimalTables(unittest.TestCase):
    @classmethod
    def setUpClass(cls):
        cls.known = {}
        for key, tables in known().items():
            right = set(tables)
            rows = []
            for entries, fresh, roots in right:
                if not any((entries - {entry}, fresh, roots) in right for entry in entries):
                    places = sorted(ENTRIES.index(entry) for entry in entries)
                    rows.append((len(places), places, COLORS.index(fresh), ROOTS.index(roots)))
            cls.known[key] = [
                Table(*[ENTRIES[place] for place in places], fresh=COLORS[light], roots=ROOTS[again])
                for _, places, light, again in sorted(rows)
            ]

    def test_against_all_tables(self):
        for (goal, registers, scanning), expected in self.known.items():
            self.assertTrue(expected)
            for fresh in (None, *COLORS):
                for roots in (None, *ROOTS):
                    part = [table for table in expected if fresh in (None, table.fresh) and roots in (None, table.roots)]
                    found = list(minimal_tables(goal, fresh=fresh, roots=roots, registers=registers, scanning=scanning))
                    self.assertEqual(found, part)
                    self.assertEqual(list(minimal_tables(roots=roots, fresh=fresh, scanning=scanning, registers=registers,
                                                         goal=goal)), part)

    def test_what_is_left_out(self):
        for goal in GOALS:
            self.assertEqual(list(minimal_tables(goal)), self.known[goal, 2, "whole"])
            self.assertEqual(list(minimal_tables(goal, registers=1)), self.known[goal, 1, "whole"])
            self.assertEqual(list(minimal_tables(goal, registers=7, scanning="fields")), self.known[goal, 2, "fields"])
        self.assertEqual([str(table) for table in minimal_tables("safe", roots="again", fresh="grey")], [
            "grey again: load-grey", "grey again: new-black", "grey again: source-black", "grey again: load-white old-grey",
            "grey again: old-white old-grey",
        ])
        self.assertEqual([str(table) for table in minimal_tables("bounded", registers=1)],
                         ["white once: -", "black once: -", "black again: -"])

    def test_kinds(self):
        self.assertEqual({type(table) for table in minimal_tables("safe")}, {Table})

    def test_goals_that_are_none(self):
        check_goals_that_are_none(self, lambda goal: list(minimal_tables(goal)))
        check_goals_that_are_none(self, lambda goal: list(minimal_tables(goal=goal, fresh="white", roots="once", registers=1)))
