"""Points 4, 17 and 18, and the numbers of point 19: tables."""

import itertools
import unittest

from shadeguards.entries import COLORS, ENTRIES
from shadeguards.errors import InvalidEntry, InvalidFresh, InvalidRoots, Mismatch
from shadeguards.tables import Table
from tests.values import ANY, all_tables, chances, frozen, some_table, without

WORDS = list(itertools.product(COLORS, ("once", "again")))
NO_FRESH = without(ANY, "white", "grey") + ["red", ("grey",), ["grey"], "Black"]
NO_ROOTS = without(ANY, "once") + ["Once", "never", ("once",), ["again"], "again "]


class Constructor(unittest.TestCase):
    def test_defaults(self):
        table = Table()
        self.assertEqual((table.entries, table.fresh, table.roots), ((), "black", "once"))

    def test_class_values(self):
        self.assertEqual(Table.FRESH, ("white", "grey", "black"))
        self.assertEqual(Table.ROOTS, ("once", "again"))

    def test_each_entry_once_in_order(self):
        table = Table(*(ENTRIES[::-1] + ENTRIES[4:6]), fresh="grey", roots="again")
        self.assertEqual((table.entries, table.fresh, table.roots), (ENTRIES, "grey", "again"))
        self.assertEqual(Table(("source", "white"), ("load", "black"), ("source", "white")).entries,
                         (("load", "black"), ("source", "white")))

    def test_words(self):
        for fresh, roots in WORDS:
            table = Table(("new", "grey"), roots=roots, fresh=fresh)
            self.assertEqual((table.entries, table.fresh, table.roots), ((("new", "grey"),), fresh, roots))

    def test_refused_entries(self):
        for thing in ANY:
            for before in (0, 1, 12):
                given = [*ENTRIES[:before], thing, "red"]
                with self.assertRaises(InvalidEntry) as caught:
                    Table(*given, fresh="red", roots="never")
                self.assertEqual(caught.exception.index, before)

    def test_refused_fresh(self):
        for thing in NO_FRESH:
            before = frozen(thing)
            with self.assertRaises(InvalidFresh) as caught:
                Table(("old", "grey"), fresh=thing, roots=thing)
            self.assertIs(caught.exception.value, thing)
            self.assertEqual(thing, before)

    def test_refused_roots(self):
        for thing in NO_ROOTS:
            before = frozen(thing)
            with self.assertRaises(InvalidRoots) as caught:
                Table(("old", "grey"), fresh="grey", roots=thing)
            self.assertIs(caught.exception.value, thing)
            self.assertEqual(thing, before)

    def test_fresh_and_roots_only_by_name(self):
        with self.assertRaises(InvalidEntry):
            Table("black", "once")


class ClassMethods(unittest.TestCase):
    def test_empty_and_full(self):
        self.assertEqual(Table.empty(), Table())
        self.assertEqual(Table.full(), Table(*ENTRIES))
        for fresh, roots in WORDS:
            empty = Table.empty(fresh=fresh, roots=roots)
            full = Table.full(roots=roots, fresh=fresh)
            self.assertEqual((empty.entries, empty.fresh, empty.roots), ((), fresh, roots))
            self.assertEqual((full.entries, full.fresh, full.roots), (ENTRIES, fresh, roots))

    def test_refused(self):
        for make in (Table.empty, Table.full):
            for thing in NO_FRESH:
                with self.assertRaises(InvalidFresh) as caught:
                    make(fresh=thing, roots="never")
                self.assertIs(caught.exception.value, thing)
            for thing in NO_ROOTS:
                with self.assertRaises(InvalidRoots) as caught:
                    make(roots=thing)
                self.assertIs(caught.exception.value, thing)


class Properties(unittest.TestCase):
    def test_they_cannot_be_assigned(self):
        table = Table(("old", "grey"))
        for name in ("entries", "fresh", "roots"):
            with self.assertRaises(AttributeError):
                setattr(table, name, getattr(Table.full(fresh="grey", roots="again"), name))
        self.assertEqual(table, Table(("old", "grey")))

    def test_plain_kinds(self):
        table = Table(("old", "grey"))
        self.assertIs(type(table.entries), tuple)
        self.assertIs(type(table.entries[0]), tuple)
        self.assertIs(type(table.fresh), str)
        self.assertIs(type(table.roots), str)


class Changed(unittest.TestCase):
    def test_words(self):
        for (fresh, roots), (other, word) in itertools.product(WORDS, repeat=2):
            table = Table(("old", "grey"), ("load", "white"), fresh=fresh, roots=roots)
            entries = table.entries
            self.assertEqual(table.changed(), table)
            self.assertEqual(table.changed(fresh=None, roots=None), table)
            self.assertEqual(table.changed(fresh=other), Table(*entries, fresh=other, roots=roots))
            self.assertEqual(table.changed(roots=word), Table(*entries, fresh=fresh, roots=word))
            self.assertEqual(table.changed(roots=word, fresh=other), Table(*entries, fresh=other, roots=word))
            self.assertEqual((table.entries, table.fresh, table.roots), (entries, fresh, roots))

    def test_refused(self):
        table = Table(("old", "grey"), fresh="grey", roots="again")
        for thing in without(NO_FRESH, None):
            with self.assertRaises(InvalidFresh) as caught:
                table.changed(fresh=thing, roots="never")
            self.assertIs(caught.exception.value, thing)
        for thing in without(NO_ROOTS, None):
            with self.assertRaises(InvalidRoots) as caught:
                table.changed(fresh="white", roots=thing)
            self.assertIs(caught.exception.value, thing)
        self.assertEqual(table, Table(("old", "grey"), fresh="grey", roots="again"))


class Call(unittest.TestCase):
    def test_one_entry(self):
        told = {"load": "loaded", "old": "old", "new": "new", "source": "source"}
        for (kind, color), other in itertools.product(ENTRIES, COLORS):
            table = Table((kind, color))
            loads = (told[kind],) if kind == "load" and color == other else ()
            stores = (told[kind],) if kind != "load" and color == other else ()
            self.assertEqual(table("load", other), loads)
            self.assertEqual(table("store", color=other), stores)
            self.assertEqual(table(color=other, kind="store"), stores)

    def test_none_and_all(self):
        for color in COLORS:
            self.assertEqual((Table()("load", color), Table()("store", color)), ((), ()))
            self.assertEqual(Table.full()("load", color), ("loaded",))
            self.assertEqual(Table.full()("store", color), ("old", "new", "source"))

    def test_all_sets_of_stores(self):
        for color in COLORS:
            for size in range(4):
                for kinds in itertools.combinations(("old", "new", "source"), size):
                    table = Table(*[(kind, color) for kind in kinds[::-1]])
                    self.assertEqual(table("store", color), kinds)
                    self.assertIs(type(table("store", color)), tuple)


class Operators(unittest.TestCase):
    def test_or_and_minus(self):
        for chance in chances(200):
            words = {"fresh": chance.choice(COLORS), "roots": chance.choice(("once", "again"))}
            one, other = some_table(chance, **words), some_table(chance, **words)
            entries, others = set(one.entries), set(other.entries)
            for found, expected in [
                (one | other, entries | others), (one & other, entries & others), (one - other, entries - others),
            ]:
                self.assertEqual(found.entries, tuple(entry for entry in ENTRIES if entry in expected))
                self.assertEqual((found.fresh, found.roots), (words["fresh"], words["roots"]))
                self.assertIs(type(found), Table)
            self.assertEqual(one.within(other), entries <= others)
            self.assertEqual((set(one.entries), set(other.entries)), (entries, others))

    def test_none_and_all(self):
        full, empty, one = Table.full(), Table.empty(), Table(("new", "white"))
        self.assertEqual([full | empty, full & empty, full - empty, empty - full], [full, empty, full, empty])
        self.assertEqual([one | one, one & one, one - one], [one, one, empty])
        self.assertEqual([one.within(full), one.within(one), full.within(one), empty.within(one)],
                         [True, True, False, True])

    def test_in_place_forms_leave_the_table(self):
        table = one = Table(("new", "white"))
        table |= Table(("old", "grey"))
        self.assertEqual(one, Table(("new", "white")))
        self.assertEqual(table, Table(("new", "white"), ("old", "grey")))

    def test_unlike_words(self):
        for (fresh, roots), (other, word) in itertools.product(WORDS, repeat=2):
            a, b = Table(("old", "grey"), fresh=fresh, roots=roots), Table.full(fresh=other, roots=word)
            alike = (fresh, roots) == (other, word)
            self.assertIs(a.within(b), alike)
            self.assertIs(a.within(other=b), alike)
            if not alike:
                for deed in (lambda: a | b, lambda: a & b, lambda: a - b, lambda: b - a):
                    with self.assertRaises(Mismatch):
                        deed()

    def test_within_tells_bools(self):
        self.assertIs(Table().within(Table.full()), True)
        self.assertIs(Table.full().within(Table()), False)
        self.assertIs(Table(("old", "grey")).within(Table(("old", "white"))), False)


class Equality(unittest.TestCase):
    def test_equal(self):
        one = Table(("old", "grey"), ("load", "white"))
        other = Table(("load", "white"), ("old", "grey"), ("load", "white"))
        self.assertIs(one == other, True)
        self.assertIs(one != other, False)

    def test_unlike_in_one_thing(self):
        one = Table(("old", "grey"))
        for other in [Table(), Table(("old", "white")), Table(("old", "grey"), ("old", "white")),
                      one.changed(fresh="grey"), one.changed(roots="again")]:
            self.assertIs(one == other, False)
            self.assertIs(one != other, True)
            self.assertIs(other == one, False)

    def test_nothing_else_is_equal(self):
        one = Table(("old", "grey"))
        for thing in [*ANY, one.entries, str(one), repr(one), (one.entries, one.fresh, one.roots), Table, len(one)]:
            self.assertIs(one == thing, False)
            self.assertIs(one != thing, True)
            self.assertIs(thing == one, False)
            self.assertIs(thing != one, True)


class Contents(unittest.TestCase):
    def test_in(self):
        for entry, other in itertools.product(ENTRIES, repeat=2):
            self.assertIs(entry in Table(other), entry == other)
        for entry in ENTRIES:
            self.assertIs(entry in Table.full(), True)
            self.assertIs(entry in Table(), False)
            self.assertIs(list(entry) in Table.full(), False)
        for thing in ANY:
            self.assertIs(thing in Table.full(), False)

    def test_len_and_truth(self):
        for size in range(13):
            table = Table(*ENTRIES[:size], *ENTRIES[:size])
            self.assertEqual(len(table), size)
            self.assertIs(bool(table), size > 0)

    def test_repr(self):
        self.assertEqual(repr(Table(("new", "grey"))), "Table(1 entries, fresh black, roots once)")
        self.assertEqual(repr(Table.full(fresh="white", roots="again")), "Table(12 entries, fresh white, roots again)")
        self.assertEqual(repr(Table.empty(fresh="grey")), "Table(0 entries, fresh grey, roots once)")

    def test_str(self):
        self.assertEqual(str(Table(("old", "grey"), ("load", "white"))), "black once: load-white old-grey")
        self.assertEqual(str(Table(fresh="white", roots="again")), "white again: -")
        self.assertEqual(
            str(Table.full(fresh="grey")),
            "grey once: load-white load-grey load-black old-white old-grey old-black"
            " new-white new-grey new-black source-white source-grey source-black",
        )


class AllTables(unittest.TestCase):
    def test_there_are_24576(self):
        self.assertEqual(len({str(table) for table in all_tables()}), 24576)
        self.assertEqual(len({table.entries for table in all_tables()}), 4096)
