"""Point 94: numbers of safe pairs, and minimal pairs."""

import itertools
import unittest

from shadeguards.entries import COLORS, ENTRIES
from shadeguards.tables import Table
from shadeguards.threadcounts import count_pairs, minimal_pairs
from tests.threadmodel import NAMED_EARLY, NAMED_LATE, is_covered, is_guarded, safe_sets
from tests.values import chances, frozen, subsets

SCANNINGS = ("whole", "fields")
ROOTS = ("once", "again")
TOTALS = {("whole", "once"): 43646976, ("whole", "again"): 95846400, ("fields", "once"): 32735232, ("fields", "again"): 62097408}


def kinds_of_sets(wanted, barred, scanning):
    """How many of the 4,096 sets of entries there are of each kind, by going through all of them."""
    numbers = {}
    for some in subsets(ENTRIES):
        entries = set(some)
        if entries >= set(wanted) and not entries & set(barred):
            kind = (is_guarded(entries, scanning), frozenset(entries & {("load", "grey"), ("load", "white"), ("old", "white"), ("old", "grey")}))
            numbers[kind] = numbers.get(kind, 0) + 1
    return numbers


def expected_number(early, not_early, late, not_late, fresh, roots, scanning):
    """The number of safe pairs, by going through the kinds of both tables."""
    number = 0
    of_late = kinds_of_sets(late, not_late, scanning)
    for (guarded, entries), many in kinds_of_sets(early, not_early, scanning).items():
        for (guarded_late, entries_late), many_late in of_late.items():
            for color, word in itertools.product(COLORS if fresh is None else [fresh], ROOTS if roots is None else [roots]):
                if guarded and (is_covered(entries, entries_late, color) or word == "again" and guarded_late):
                    number += many * many_late * 3
    return number


class Counts(unittest.TestCase):
    def test_the_table_of_the_document(self):
        for (scanning, roots), number in TOTALS.items():
            self.assertEqual(count_pairs(roots=roots, scanning=scanning), number)
        self.assertEqual(count_pairs(), 43646976 + 95846400)
        self.assertEqual(count_pairs(scanning="fields"), 32735232 + 62097408)
        self.assertEqual(count_pairs(early=(), not_early=(), late=(), not_late=(), fresh=None, roots=None, scanning="whole"), count_pairs())
        self.assertIs(type(count_pairs()), int)

    def test_fresh(self):
        for scanning in SCANNINGS:
            for roots in (None, *ROOTS):
                told = [count_pairs(fresh=fresh, roots=roots, scanning=scanning) for fresh in COLORS]
                self.assertEqual(sum(told), count_pairs(roots=roots, scanning=scanning))
                self.assertEqual(told[1], told[2])
                self.assertEqual(told, [expected_number((), (), (), (), fresh, roots, scanning) for fresh in COLORS])
        self.assertEqual(count_pairs(fresh="white", roots="once"), 0)

    def test_one_entry(self):
        for scanning in SCANNINGS:
            for roots in ROOTS:
                total = TOTALS[scanning, roots]
                for entry in ENTRIES:
                    with_early, without_early = count_pairs(early=(entry,), roots=roots, scanning=scanning), count_pairs(
                        not_early=(entry,), roots=roots, scanning=scanning)
                    with_late, without_late = count_pairs(late=(entry,), roots=roots, scanning=scanning), count_pairs(
                        not_late=(entry,), roots=roots, scanning=scanning)
                    self.assertEqual((with_early + without_early, with_late + without_late), (total, total))
                    # More entries let no pair be unsafe.
                    self.assertTrue(with_early >= without_early and with_late >= without_late)
                    self.assertIs(with_early == without_early, entry not in NAMED_EARLY or scanning == "whole" and entry in (
                        ("new", "grey"), ("source", "grey")))

    def test_chance(self):
        for chance in chances(40, 210):
            words = {}
            for name in ("early", "not_early", "late", "not_late"):
                words[name] = tuple(chance.choice(ENTRIES) for _ in range(chance.choice((0, 0, 1, 1, 2, 3))))
            words.update(fresh=chance.choice((None, *COLORS)), roots=chance.choice((None, *ROOTS)), scanning=chance.choice(SCANNINGS))
            before = frozen(words)
            self.assertEqual(count_pairs(**words), expected_number(**words))
            self.assertEqual(words, before)
            doubled = {name: value[::-1] * 2 if type(value) is tuple else value for name, value in words.items()}
            self.assertEqual(count_pairs(**doubled), count_pairs(**words))

    def test_all_entries_told(self):
        # Then a single pair of sets is left, with each fresh of the early table.
        for chance in chances(60, 211):
            early, late = ([entry for entry in ENTRIES if chance.random() < 0.6] for _ in range(2))
            others = [tuple(entry for entry in ENTRIES if entry not in some) for some in (early, late)]
            for scanning, roots, fresh in itertools.product(SCANNINGS, ROOTS, COLORS):
                number = count_pairs(early=tuple(early), not_early=others[0], late=tuple(late), not_late=others[1], fresh=fresh, roots=roots,
                                     scanning=scanning)
                self.assertEqual(number, 3 if safe_sets(set(early), set(late), fresh, roots, scanning) else 0)

    def test_entries_that_must_be_there_and_must_not(self):
        for entry in ENTRIES:
            self.assertEqual(count_pairs(early=(entry,), not_early=(entry,)), 0)
            self.assertEqual(count_pairs(late=(entry, ("load", "grey")), not_late=(("old", "black"), entry)), 0)
            self.assertGreater(count_pairs(early=(entry, entry)), 0)
        # The same entry of the two tables is not the same thing.
        self.assertGreater(count_pairs(early=(("new", "black"),), not_late=(("new", "black"),)), 0)


class Minimal(unittest.TestCase):
    def search(self, fresh, roots, scanning):
        """All minimal pairs over the entries that matter, by trying them in order: first the least numbers of entries."""
        pairs = sorted(itertools.product(subsets(NAMED_EARLY), subsets(NAMED_LATE)), key=lambda pair: len(pair[0]) + len(pair[1]))
        found = []
        for early, late in pairs:
            if any(set(one) <= set(early) and set(other) <= set(late) for one, other in found):
                continue
            if safe_sets(set(early), set(late), fresh, roots, scanning):
                found.append((early, late))
        found = [tuple(tuple(entry for entry in ENTRIES if entry in some) for some in pair) for pair in found]
        return sorted(found, key=lambda pair: (len(pair[0] + pair[1]), *[[ENTRIES.index(entry) for entry in some] for some in pair]))

    def test_against_a_search(self):
        for fresh, roots, scanning in itertools.product(COLORS, ROOTS, SCANNINGS):
            found = list(minimal_pairs(fresh=fresh, roots=roots, scanning=scanning))
            self.assertEqual([(early.entries, late.entries) for early, late in found], self.search(fresh, roots, scanning))
            for pair in found:
                self.assertEqual((type(pair), [type(table) for table in pair]), (tuple, [Table, Table]))
                self.assertEqual([(table.fresh, table.roots) for table in pair], [("black", roots), (fresh, roots)])

    def test_numbers(self):
        told = {(fresh, roots, scanning): len(list(minimal_pairs(fresh=fresh, roots=roots, scanning=scanning)))
                for fresh in COLORS for roots in ROOTS for scanning in SCANNINGS}
        for scanning, guards in [("whole", 2), ("fields", 4)]:
            for fresh in ("grey", "black"):
                self.assertEqual(told[fresh, "once", scanning], 3 * guards)
                self.assertEqual(told[fresh, "again", scanning], 3 * guards + guards * guards)
            self.assertEqual((told["white", "once", scanning], told["white", "again", scanning]), (0, guards * guards))

    def test_what_is_left_out(self):
        def texts(**words):
            return [(str(early), str(late)) for early, late in minimal_pairs(**words)]

        self.assertEqual(texts(), texts(fresh="black", roots="once", scanning="whole"))
        self.assertEqual(texts(roots="again"), texts(scanning="whole", roots="again", fresh="black"))
        self.assertEqual(texts(), [
            ("black once: new-black", "black once: load-grey"), ("black once: source-black", "black once: load-grey"),
            ("black once: old-grey new-black", "black once: load-white old-grey"),
            ("black once: old-grey source-black", "black once: load-white old-grey"),
            ("black once: old-white old-grey new-black", "black once: old-white old-grey"),
            ("black once: old-white old-grey source-black", "black once: old-white old-grey"),
        ])
        self.assertEqual(texts(fresh="white", roots="again")[:2], [
            ("black again: new-black", "white again: new-black"), ("black again: new-black", "white again: source-black"),
        ])
