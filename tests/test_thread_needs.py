"""Point 86: what a pair of tables needs to keep an invariant."""

import unittest

from shadeguards.entries import COLORS, ENTRIES
from shadeguards.errors import NoInvariant
from shadeguards.tables import Table
from shadeguards.threadcycles import ThreadCycle
from shadeguards.threadinvariants import thread_holds
from shadeguards.threadneeds import is_thread_kept, missing_thread_needs, thread_needs
from tests.test_thread_invariants import NO_NAMES
from tests.threadmodel import likely_pair, some_thread_state
from tests.values import chances, frozen

SCANNINGS = ("whole", "fields")
NAMES = ("strong", "registers", "held", "paths")

EARLY_BLACK = (("early", ("new", "black")), ("early", ("source", "black")))
EARLY_GREY = (("early", ("new", "grey")), ("early", ("source", "grey")))
LATE_BLACK = (("late", ("new", "black")), ("late", ("source", "black")))
LATE_GREY = (("late", ("new", "grey")), ("late", ("source", "grey")))
FRESH = (("late", ("fresh", "grey")), ("late", ("fresh", "black")))
# The needs as the table of the document lists them.
NEEDS = {
    ("strong", "whole"): (EARLY_BLACK, LATE_BLACK),
    ("strong", "fields"): (EARLY_GREY, EARLY_BLACK, LATE_GREY, LATE_BLACK),
    ("registers", "whole"): (EARLY_BLACK, FRESH, (("late", ("load", "grey")),)),
    ("registers", "fields"): (EARLY_GREY, EARLY_BLACK, FRESH, (("late", ("load", "grey")),)),
    ("held", "whole"): (EARLY_BLACK, (("early", ("old", "grey")),), FRESH, (("late", ("load", "white")),), (("late", ("old", "grey")),)),
    ("held", "fields"): (EARLY_GREY, EARLY_BLACK, (("early", ("old", "grey")),), FRESH, (("late", ("load", "white")),),
                         (("late", ("old", "grey")),)),
    ("paths", "whole"): (EARLY_BLACK, (("early", ("old", "white")),), (("early", ("old", "grey")),), FRESH, (("late", ("old", "white")),),
                         (("late", ("old", "grey")),)),
    ("paths", "fields"): (EARLY_GREY, EARLY_BLACK, (("early", ("old", "white")),), (("early", ("old", "grey")),), FRESH,
                          (("late", ("old", "white")),), (("late", ("old", "grey")),)),
}


def meets(early, late, need):
    """Whether the pair meets the need, in the words of point 86."""
    for which, (kind, color) in need:
        table = {"early": early, "late": late}[which]
        if table.fresh == color if kind == "fresh" else (kind, color) in table.entries:
            return True
    return False


def pairs_that_lack(needs, *lacking):
    """Pairs that meet all of these needs but those that are lacking: by one alternative each, and by all of them."""
    for pick in (0, -1, None):
        for rest in (False, True):
            for roots in ("once", "again"):
                barred = [one for need in lacking for one in need]
                met = [one for need in needs if need not in lacking for one in (need if pick is None else [need[pick]])]
                tables = []
                for which in ("early", "late"):
                    entries = [one[1] for one in met if one[0] == which and one[1][0] != "fresh"]
                    if rest:
                        named = [one[1] for need in needs for one in need if one[0] == which]
                        entries += [entry for entry in ENTRIES if entry not in named]
                    if rest and pick is None:
                        entries = [entry for entry in ENTRIES if (which, entry) not in barred]
                    colors = [color for color in COLORS if (which, ("fresh", color)) not in barred]
                    fresh = [color for color in colors if which == "early" or ("late", ("fresh", color)) in met] or colors[:1]
                    tables.append([Table(*entries, fresh=color, roots=roots) for color in fresh])
                for early in tables[0]:
                    for late in tables[1]:
                        yield early, late


class Needs(unittest.TestCase):
    def test_all(self):
        for (name, scanning), expected in NEEDS.items():
            self.assertEqual(thread_needs(name, scanning=scanning), expected)
            self.assertEqual(thread_needs(scanning=scanning, name=name), expected)
            if scanning == "whole":
                self.assertEqual(thread_needs(name), expected)

    def test_kinds(self):
        for (name, scanning) in NEEDS:
            told = thread_needs(name, scanning=scanning)
            self.assertEqual({type(part) for need in told for one in need for part in (told, need, one, one[1])}, {tuple})

    def test_names_that_are_none(self):
        for name in NO_NAMES:
            before = frozen(name)
            for deed in [lambda: thread_needs(name), lambda: missing_thread_needs(Table(), Table(), name),
                         lambda: is_thread_kept(Table(), Table(), name, scanning="fields"), lambda: thread_needs(name=name, scanning="fields")]:
                with self.assertRaises(NoInvariant) as caught:
                    deed()
                self.assertIs(caught.exception.name, name)
            self.assertEqual(name, before)


class Missing(unittest.TestCase):
    def check(self, early, late, name, scanning):
        missing = tuple(need for need in NEEDS[name, scanning] if not meets(early, late, need))
        self.assertEqual(missing_thread_needs(early, late, name, scanning=scanning), missing)
        self.assertIs(is_thread_kept(early, late, name, scanning=scanning), missing == ())
        return missing

    def test_one_need_that_is_not_met(self):
        for (name, scanning), needs in NEEDS.items():
            for need in needs:
                for early, late in pairs_that_lack(needs, need):
                    self.assertEqual(self.check(early, late, name, scanning), (need,))
            for early, late in pairs_that_lack(needs):
                self.assertEqual(self.check(early, late, name, scanning), ())
            for first in needs:
                for second in needs:
                    for early, late in pairs_that_lack(needs, first, second):
                        self.assertEqual(len(self.check(early, late, name, scanning)), len({first, second}))

    def test_by_names(self):
        late = Table(("load", "grey"))
        self.assertEqual(missing_thread_needs(scanning="whole", name="registers", late=late, early=Table()), (EARLY_BLACK,))
        self.assertIs(is_thread_kept(name="registers", late=late, early=Table(("new", "black"))), True)
        self.assertIs(is_thread_kept(name="registers", late=late, early=Table(("new", "black")), scanning="fields"), False)
        self.assertEqual(missing_thread_needs(Table(), late, "strong"), (EARLY_BLACK, LATE_BLACK))

    def test_chance(self):
        for chance in chances(500, 170):
            early, late = likely_pair(chance)
            for name in NAMES:
                for scanning in SCANNINGS:
                    self.check(early, late, name, scanning)

    def test_the_fresh_of_early_and_its_loads_do_not_matter(self):
        for name in NAMES:
            for scanning in SCANNINGS:
                for chance in chances(40, 171):
                    early, late = likely_pair(chance)
                    loads = Table(*[("load", color) for color in COLORS], fresh=early.fresh, roots=early.roots)
                    told = {is_thread_kept(one.changed(fresh=fresh), late, name, scanning=scanning)
                            for one in (early, early | loads, early - loads) for fresh in COLORS}
                    self.assertEqual(len(told), 1)


class Fact(unittest.TestCase):
    def test_a_pair_that_meets_all_needs_keeps_the_invariant(self):
        tried = 0
        for chance in chances(1200, 172):
            scanning, name = chance.choice(SCANNINGS), chance.choice(NAMES)
            pairs = list(pairs_that_lack(NEEDS[name, scanning]))
            early, late = chance.choice(pairs)
            state = some_thread_state(chance, scanning, most=4, width=chance.randint(1, 2))
            cycle = ThreadCycle.at(state, early, late, scanning=scanning)
            if thread_holds(cycle, name):
                for step in cycle.moves():
                    self.assertTrue(cycle.tried(lambda one: (one.step(step), thread_holds(one, name))[1]), (state, step, name))
                    tried += 1
        self.assertGreater(tried, 3000)
