"""Point 58: changes of a table."""

import unittest

from shadeguards.changes import change_table, is_change
from shadeguards.entries import COLORS, ENTRIES
from shadeguards.errors import InvalidChange
from shadeguards.tables import Table
from tests.values import ANY, chances, frozen, some_table

ALL_CHANGES = [("add", entry) for entry in ENTRIES] + [("remove", entry) for entry in ENTRIES]
ALL_CHANGES += [("fresh", color) for color in COLORS] + [("roots", word) for word in ("once", "again")]
# Each of these is no change by one part alone.
NO_CHANGES = ANY + [
    ("Add", ("load", "grey")), ("add ", ("load", "grey")), ("", ("load", "grey")), (("add",), ("load", "grey")),
    (["add"], ("load", "grey")), (None, ("load", "grey")), (True, ("load", "grey")), ({}, ("load", "grey")),
    ["add", ("load", "grey")], ("add", ["load", "grey"]), ("add", ("load", "red")), ("add", ("loads", "grey")),
    ("add", ("load",)), ("add", ("load", "grey", "grey")), ("add", "load-grey"), ("add", None), ("add", {}), ("add", "grey"),
    ("add", "once"), ("add",), ("add", ("load", "grey"), ("old", "grey")), ("remove", ["old", "grey"]), ("remove", "white"),
    ("remove", ("fresh", "grey")), ("remove",), ("remove", ("old", "grey"), None), ("remove", {"old": "grey"}),
    ("fresh", "red"), ("fresh", "once"), ("fresh", ("load", "grey")), ("fresh", ("grey",)), ("fresh", ["grey"]), ("fresh", None),
    ("fresh", True), ("fresh", 0), ("fresh", {}), ("fresh",), ("fresh", "grey", "grey"), ["fresh", "grey"],
    ("roots", "twice"), ("roots", "Once"), ("roots", "grey"), ("roots", ("once",)), ("roots", ["once"]), ("roots", None),
    ("roots", True), ("roots", {"once": 1}), ("roots",), ("roots", "once", "again"), {"roots": "once"}, ("root", "once"),
]


def model_change(parts, change):
    """The parts of a table after a change, or None if it changes nothing; the entries are a set here."""
    entries, fresh, roots = parts
    word, what = change
    if word == "add":
        after = (entries | {what}, fresh, roots)
    elif word == "remove":
        after = (entries - {what}, fresh, roots)
    else:
        after = (entries, what, roots) if word == "fresh" else (entries, fresh, what)
    return None if after == parts else after


class IsChange(unittest.TestCase):
    def test_all_changes(self):
        self.assertEqual(len(ALL_CHANGES), 29)
        for change in ALL_CHANGES:
            self.assertIs(is_change(change), True)
            self.assertIs(is_change(thing=change), True)

    def test_values_that_are_none(self):
        for thing in NO_CHANGES:
            before = frozen(thing)
            self.assertIs(is_change(thing), False, thing)
            self.assertEqual(thing, before)


class ChangeTable(unittest.TestCase):
    def refused(self, table, *changes):
        before = frozen(changes), table.entries, table.fresh, table.roots
        with self.assertRaises(InvalidChange) as caught:
            change_table(table, *changes)
        self.assertEqual((changes, table.entries, table.fresh, table.roots), before)
        return caught.exception.index

    def test_each_change(self):
        for chance in chances(60, 80):
            table = some_table(chance)
            parts = (set(table.entries), table.fresh, table.roots)
            for change in ALL_CHANGES:
                after = model_change(parts, change)
                if after is None:
                    self.assertEqual(self.refused(table, change), 0)
                else:
                    made = change_table(table, change)
                    self.assertEqual((set(made.entries), made.fresh, made.roots), after)
                    self.assertIs(type(made), Table)
                self.assertEqual((set(table.entries), table.fresh, table.roots), parts)

    def test_no_changes(self):
        table = Table(("old", "grey"), fresh="white", roots="again")
        self.assertEqual(change_table(table), table)
        self.assertEqual(change_table(table=table), table)

    def test_one_after_another(self):
        for chance in chances(400, 81):
            table = some_table(chance)
            parts = (set(table.entries), table.fresh, table.roots)
            changes = [chance.choice(ALL_CHANGES) for _ in range(chance.randint(0, 6))]
            wrong = None
            for index, change in enumerate(changes):
                after = model_change(parts, change)
                if after is None:
                    wrong = index
                    break
                parts = after
            if wrong is None:
                made = change_table(table, *changes)
                self.assertEqual((set(made.entries), made.fresh, made.roots), parts)
            else:
                self.assertEqual(self.refused(table, *changes), wrong)

    def test_at_its_moment(self):
        add, remove = ("add", ("new", "grey")), ("remove", ("new", "grey"))
        self.assertEqual(change_table(Table(), add, remove, add, remove), Table())
        self.assertEqual(self.refused(Table(), add, remove, remove), 2)
        self.assertEqual(self.refused(Table(), add, add), 1)
        self.assertEqual(self.refused(Table(), remove, add), 0)
        self.assertEqual(change_table(Table(), ("fresh", "grey"), ("fresh", "white"), ("fresh", "black")), Table())
        self.assertEqual(self.refused(Table(), ("fresh", "grey"), ("fresh", "black"), ("fresh", "black")), 2)
        self.assertEqual(self.refused(Table(), ("roots", "again"), ("roots", "again")), 1)
        self.assertEqual(self.refused(Table(), ("roots", "once"), ("roots", "again")), 0)

    def test_values_that_are_none(self):
        for thing in NO_CHANGES:
            self.assertEqual(self.refused(Table(), thing), 0)
            self.assertEqual(self.refused(Table(), ("fresh", "grey"), thing, ("fresh", "grey")), 1)
            # The first one counts, whichever of the two it is.
            self.assertEqual(self.refused(Table(), ("fresh", "black"), thing), 0)
            self.assertEqual(self.refused(Table(), ("roots", "again"), ("add", ("load", "grey")), thing, thing), 2)
