"""Points 79, 88, 90 and 91: which pairs are safe, the ways, and verdicts."""

import unittest

from shadeguards.entries import COLORS, ENTRIES
from shadeguards.errors import InvalidRoots, Mismatch
from shadeguards.tables import Table
from shadeguards.threadjudge import check_threads, fits_threads, is_safe_pair, judge_threads, thread_ways
from shadeguards.threadruns import losing_threads
from shadeguards.ways import has_property
from tests.test_thread_runs import RUN, STEPS
from tests.threadmodel import NAMED_EARLY, NAMED_LATE, check_mismatch, likely_pair, safe_pair, safe_sets, some_thread_cycle
from tests.values import ANY, chances, frozen, reason_of, subsets, wander, without

SCANNINGS = ("whole", "fields")
ROOTS = ("once", "again")
ANY_COLOR = ("white", "grey", "black")
LIT = ("grey", "black")
NEW_GREY, NEW_BLACK, SOURCE_GREY, SOURCE_BLACK = ("new", "grey"), ("new", "black"), ("source", "grey"), ("source", "black")
LOAD_WHITE, LOAD_GREY, OLD_WHITE, OLD_GREY = ("load", "white"), ("load", "grey"), ("old", "white"), ("old", "grey")
GUARDS = {
    "whole": [(NEW_BLACK,), (SOURCE_BLACK,)],
    "fields": [(NEW_GREY, NEW_BLACK), (NEW_GREY, SOURCE_BLACK), (NEW_BLACK, SOURCE_GREY), (SOURCE_GREY, SOURCE_BLACK)],
}
# The three rows of each guard, as the document describes them, written out.
COVERED = {
    "whole": (
        ((NEW_BLACK,), (LOAD_GREY,), LIT, "registers"), ((SOURCE_BLACK,), (LOAD_GREY,), LIT, "registers"),
        ((OLD_GREY, NEW_BLACK), (LOAD_WHITE, OLD_GREY), LIT, "held"), ((OLD_GREY, SOURCE_BLACK), (LOAD_WHITE, OLD_GREY), LIT, "held"),
        ((OLD_WHITE, OLD_GREY, NEW_BLACK), (OLD_WHITE, OLD_GREY), LIT, "paths"),
        ((OLD_WHITE, OLD_GREY, SOURCE_BLACK), (OLD_WHITE, OLD_GREY), LIT, "paths"),
    ),
    "fields": (
        ((NEW_GREY, NEW_BLACK), (LOAD_GREY,), LIT, "registers"), ((NEW_GREY, SOURCE_BLACK), (LOAD_GREY,), LIT, "registers"),
        ((NEW_BLACK, SOURCE_GREY), (LOAD_GREY,), LIT, "registers"), ((SOURCE_GREY, SOURCE_BLACK), (LOAD_GREY,), LIT, "registers"),
        ((OLD_GREY, NEW_GREY, NEW_BLACK), (LOAD_WHITE, OLD_GREY), LIT, "held"),
        ((OLD_GREY, NEW_GREY, SOURCE_BLACK), (LOAD_WHITE, OLD_GREY), LIT, "held"),
        ((OLD_GREY, NEW_BLACK, SOURCE_GREY), (LOAD_WHITE, OLD_GREY), LIT, "held"),
        ((OLD_GREY, SOURCE_GREY, SOURCE_BLACK), (LOAD_WHITE, OLD_GREY), LIT, "held"),
        ((OLD_WHITE, OLD_GREY, NEW_GREY, NEW_BLACK), (OLD_WHITE, OLD_GREY), LIT, "paths"),
        ((OLD_WHITE, OLD_GREY, NEW_GREY, SOURCE_BLACK), (OLD_WHITE, OLD_GREY), LIT, "paths"),
        ((OLD_WHITE, OLD_GREY, NEW_BLACK, SOURCE_GREY), (OLD_WHITE, OLD_GREY), LIT, "paths"),
        ((OLD_WHITE, OLD_GREY, SOURCE_GREY, SOURCE_BLACK), (OLD_WHITE, OLD_GREY), LIT, "paths"),
    ),
}
STRONG = {scanning: tuple((one, other, ANY_COLOR, "strong") for one in guards for other in guards) for scanning, guards in GUARDS.items()}
NAMES = ("strong", "registers", "held", "paths")
NO_NAMES = ["Strong", "thread", "snapshot", "single", "", ("strong",), ["strong"], None, True, 0, {"strong": 1}] + ANY


class Ways(unittest.TestCase):
    def test_all(self):
        for scanning in SCANNINGS:
            self.assertEqual(thread_ways("once", scanning=scanning), COVERED[scanning])
            self.assertEqual(thread_ways("again", scanning=scanning), STRONG[scanning] + COVERED[scanning])
            self.assertEqual(thread_ways(scanning=scanning, roots="again"), STRONG[scanning] + COVERED[scanning])
        self.assertEqual(thread_ways("once"), COVERED["whole"])
        self.assertEqual(len(thread_ways("again")), 10)
        self.assertEqual({type(part) for way in thread_ways("again") for part in (way, *way)}, {tuple, str})

    def test_roots_that_are_none(self):
        for roots in ["Once", "once ", "", ("once",), ["again"], None, True, 0] + without(ANY, "once", "again"):
            before = frozen(roots)
            for words in ({}, {"scanning": "fields"}):
                with self.assertRaises(InvalidRoots) as caught:
                    thread_ways(roots, **words)
                self.assertIs(caught.exception.value, roots)
            self.assertEqual(roots, before)

    def test_fits(self):
        ways = set(STRONG["whole"] + STRONG["fields"] + COVERED["whole"] + COVERED["fields"])
        for chance in chances(150, 190):
            early, late = likely_pair(chance)
            for way in ways:
                needed, needed_late, fresh, _ = way
                expected = set(needed) <= set(early.entries) and set(needed_late) <= set(late.entries) and late.fresh in fresh
                for other in ROOTS:
                    self.assertIs(fits_threads(early.changed(roots=other), late, way), expected)
                self.assertIs(fits_threads(way=way, late=late, early=early), expected)

    def test_fits_by_one_entry(self):
        for scanning in SCANNINGS:
            for way in thread_ways("again", scanning=scanning):
                needed, needed_late, fresh, _ = way
                self.assertIs(fits_threads(Table(*needed, fresh="white"), Table(*needed_late), way), True)
                for color in COLORS:
                    self.assertIs(fits_threads(Table(*needed), Table(*needed_late, fresh=color), way), color in fresh)
                for entry in needed:
                    self.assertIs(fits_threads(Table.full() - Table(entry), Table.full(), way), False)
                for entry in needed_late:
                    self.assertIs(fits_threads(Table.full(), Table.full() - Table(entry), way), False)


class SafePairs(unittest.TestCase):
    def test_all_pairs_over_the_entries_that_matter(self):
        ways = {(roots, scanning): [(set(way[0]), set(way[1]), way[2]) for way in thread_ways(roots, scanning=scanning)]
                for roots in ROOTS for scanning in SCANNINGS}
        numbers = {}
        for roots in ROOTS:
            earlies = [(set(some), Table(*some, roots=roots)) for some in subsets(NAMED_EARLY)]
            lates = [(set(some), Table(*some, fresh=fresh, roots=roots)) for some in subsets(NAMED_LATE) for fresh in COLORS]
            for early, early_table in earlies:
                for late, late_table in lates:
                    for scanning in SCANNINGS:
                        told = is_safe_pair(early_table, late_table, scanning=scanning)
                        fitting = any(needed <= early and needed_late <= late and late_table.fresh in fresh
                                      for needed, needed_late, fresh in ways[roots, scanning])
                        if told is not fitting or told is not safe_sets(early, late, late_table.fresh, roots, scanning):
                            self.fail(f"{early_table} and {late_table}, {scanning}: {told}")
                        numbers[scanning, roots] = numbers.get((scanning, roots), 0) + told
        # Each of these pairs stands for 64 sets of the other entries of early, 16 of those of late, and each fresh of early.
        self.assertEqual({kind: number * 64 * 16 * 3 for kind, number in numbers.items()},
                         {("whole", "once"): 43646976, ("whole", "again"): 95846400, ("fields", "once"): 32735232, ("fields", "again"): 62097408})

    def test_fits_threads_beside(self):
        for chance in chances(600, 191):
            early, late = likely_pair(chance)
            for scanning in SCANNINGS:
                fitting = [way for way in thread_ways(early.roots, scanning=scanning) if fits_threads(early, late, way)]
                self.assertIs(is_safe_pair(early, late, scanning=scanning), fitting != [])
                self.assertIs(is_safe_pair(scanning=scanning, late=late, early=early), safe_pair(early, late, scanning))
                if scanning == "whole":
                    self.assertIs(is_safe_pair(early, late), fitting != [])

    def test_the_fresh_and_the_loads_of_early_do_not_matter(self):
        for chance in chances(100, 192):
            early, late = likely_pair(chance)
            loads = Table(*[("load", color) for color in COLORS], fresh=early.fresh, roots=early.roots)
            for scanning in SCANNINGS:
                told = {is_safe_pair(one.changed(fresh=fresh), late, scanning=scanning) for one in (early, early | loads, early - loads) for fresh in COLORS}
                self.assertEqual(len(told), 1)

    def test_mismatch(self):
        check_mismatch(self, is_safe_pair)
        check_mismatch(self, lambda early, late: is_safe_pair(early, late, scanning="fields"))


class Verdicts(unittest.TestCase):
    def test_judge(self):
        seen = set()
        for chance in chances(1200, 193):
            early, late = likely_pair(chance)
            for scanning in SCANNINGS:
                verdict = judge_threads(early, late, scanning=scanning)
                fitting = [way[3] for way in thread_ways(early.roots, scanning=scanning) if fits_threads(early, late, way)]
                if fitting:
                    self.assertEqual(verdict, ("yes", fitting[0]))
                else:
                    self.assertEqual((verdict[0], len(verdict)), ("no", 2))
                    self.assertEqual(verdict[1][2][-1], ("end",))
                self.assertIs(check_threads(early, late, verdict, scanning=scanning), True)
                self.assertEqual(judge_threads(scanning=scanning, late=late, early=early), verdict)
                self.assertIs(type(verdict), tuple)
                seen.add(fitting[0] if fitting else "no")
        self.assertEqual(seen, {*NAMES, "no"})

    def test_names(self):
        for chance in chances(300, 194):
            early, late = likely_pair(chance)
            for scanning in SCANNINGS:
                fitting = {way[3] for way in thread_ways(early.roots, scanning=scanning) if fits_threads(early, late, way)}
                for name in NAMES:
                    if name in fitting:
                        self.assertIs(check_threads(early, late, ("yes", name), scanning=scanning), True)
                    else:
                        self.assertEqual(reason_of(self, check_threads, early, late, ("yes", name), scanning=scanning), "name")

    def reason(self, verdict, early=Table(), late=Table(), **words):
        return reason_of(self, check_threads, early, late, verdict, **words)

    def test_names_that_are_none(self):
        full = Table.full(roots="again")
        for name in NO_NAMES:
            for early, late in [(Table(), Table()), (full, full)]:
                for scanning in SCANNINGS:
                    self.assertEqual(self.reason(("yes", name), early, late, scanning=scanning), "name")

    def test_no_verdicts(self):
        things = ANY + [["yes", "strong"], ("yes",), ("yes", "strong", 1), ("Yes", "strong"), ("no ", RUN), (True, "strong"), (None, RUN),
                        ("maybe", RUN), (("yes",), "strong"), (["no"], RUN), {"yes": "strong", "no": RUN}, "no", RUN, ("no", RUN, RUN), ({}, RUN)]
        for verdict in things:
            for early, late in [(Table(), Table()), (Table.full(roots="again"), Table.full(roots="again"))]:
                self.assertEqual(self.reason(verdict, early, late), "verdict")

    def test_runs(self):
        self.assertIs(check_threads(Table(), Table(), ("no", RUN)), True)
        self.assertIs(check_threads(verdict=("no", RUN), late=Table(), early=Table(), scanning="whole"), True)
        for many in range(len(STEPS)):
            self.assertEqual(self.reason(("no", RUN[:2] + (STEPS[:many],))), "end")
        for wrong in ANY + [None, RUN[:2], list(RUN), (RUN[0], ((0,),), STEPS), RUN[:2] + ((None,),)]:
            self.assertEqual(self.reason(("no", wrong)), "form")
        self.assertEqual(self.reason(("no", RUN), scanning="fields"), "form")
        self.assertEqual(self.reason(("no", RUN[:2] + (STEPS[:2] + (("look", 0),) + STEPS[2:],))), "step")
        self.assertEqual(self.reason(("no", RUN[:2] + (STEPS + (("clear", 0, 0),),))), "step")
        calm = (("start",), ("look", 0), ("look", 1), ("scan", 0), ("scan", 1), ("end",))
        self.assertEqual(self.reason(("no", RUN[:2] + (calm,))), "safe")
        # A white object that is not reachable is not lost.
        cut = (("start",), ("look", 0), ("store", 0, 0, 0, None), ("scan", 0), ("look", 1), ("end",))
        self.assertEqual(self.reason(("no", RUN[:2] + (cut,))), "safe")

    def test_two_at_once(self):
        self.assertEqual(self.reason(("no", RUN[:2] + ((("end",), None),))), "form")
        self.assertEqual(self.reason(("no", RUN[:2] + ((("end",),),))), "step")
        self.assertEqual(self.reason(("no", RUN[:2] + (STEPS[:3],))), "end")
        self.assertEqual(self.reason(("maybe", None)), "verdict")

    def test_mismatch(self):
        check_mismatch(self, judge_threads)
        for verdict in (("yes", "strong"), ("no", RUN), None, ("yes", None), ("no", None), ("no", RUN[:2] + ((),))):
            check_mismatch(self, lambda early, late: check_threads(early, late, verdict))


class Facts(unittest.TestCase):
    def test_a_name_or_a_run_and_never_both(self):
        for chance in chances(400, 195):
            early, late = likely_pair(chance)
            for scanning in SCANNINGS:
                run = losing_threads(early, late, scanning=scanning)
                names = [name for name in NAMES if accepts(early, late, ("yes", name), scanning)]
                self.assertIs(run is None, names != [])
                self.assertIs(run is not None and accepts(early, late, ("no", run), scanning), names == [])

    def test_no_run_of_a_safe_pair_loses_an_object(self):
        ended = 0
        for chance in chances(700, 196):
            cycle = some_thread_cycle(chance, chance.choice(SCANNINGS), most=3, width=chance.randint(1, 2))
            if not safe_pair(cycle.early, cycle.late, cycle.scanning):
                continue
            run = (cycle.heap, cycle.threads)
            list(wander(chance, cycle, 60))
            if cycle.phase == "ended":
                self.assertEqual(cycle.lost, ())
                verdict = ("no", (*run, cycle.steps))
                self.assertEqual(reason_of(self, check_threads, cycle.early, cycle.late, verdict, scanning=cycle.scanning), "safe")
                ended += 1
        self.assertGreater(ended, 30)

    def test_entries_that_are_added(self):
        for chance in chances(300, 197):
            early, late = likely_pair(chance)
            for scanning in SCANNINGS:
                if is_safe_pair(early, late, scanning=scanning):
                    for entry in ENTRIES:
                        more = [Table(*table.entries, entry, fresh=table.fresh, roots=table.roots) for table in (early, late)]
                        self.assertIs(is_safe_pair(more[0], late, scanning=scanning), True)
                        self.assertIs(is_safe_pair(early, more[1], scanning=scanning), True)

    def test_the_pair_of_a_table_with_itself(self):
        both = 0
        for chance in chances(1500, 198):
            table, _ = likely_pair(chance)
            for scanning in SCANNINGS:
                if is_safe_pair(table, table, scanning=scanning):
                    self.assertTrue(has_property(table, "safe", scanning=scanning))
                    both += 1
        self.assertGreater(both, 100)
        alone = Table(("load", "grey"))
        self.assertEqual((has_property(alone), is_safe_pair(alone, alone)), (True, False))


def accepts(early, late, verdict, scanning):
    """Whether check_threads accepts the verdict."""
    try:
        return check_threads(early, late, verdict, scanning=scanning)
    except Mismatch:
        raise
    except ValueError:
        return False
