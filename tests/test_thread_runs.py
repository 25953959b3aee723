"""Point 89: thread runs that lose an object, and playing thread runs."""

import unittest

from shadeguards.entries import COLORS, ENTRIES
from shadeguards.tables import Table
from shadeguards.threadcycles import ThreadCycle
from shadeguards.threadruns import losing_threads, play_threads
from tests.test_heaps import NO_HEAPS
from tests.threadmodel import (
    NAMED_EARLY, NAMED_LATE, check_mismatch, likely_pair, played_threads, safe_pair, some_pair, some_thread_cycle, some_threads,
)
from tests.values import ANY, chances, frozen, reason_of, some_heap, subsets, wander

SCANNINGS = ("whole", "fields")
HEAP = (1, ((1,), (None,)))
STEPS = (("start",), ("look", 0), ("load", 0, 1, 0, 0), ("store", 0, 0, 0, None), ("scan", 0), ("look", 1), ("end",))
RUN = (HEAP, ((0, None), (None,)), STEPS)


class Losing(unittest.TestCase):
    def check(self, early, late, scanning):
        run = losing_threads(early, late, scanning=scanning)
        if safe_pair(early, late, scanning):
            self.assertIsNone(run)
            return False
        heap, threads, steps = run
        self.assertEqual([len(registers) for registers in threads], [2, 2])
        self.assertTrue(len(heap[1]) <= 3 and heap[0] in (1, 2))
        self.assertEqual(steps[-1], ("end",))
        # The second machine plays it step by step.
        model = played_threads(early, late, run, scanning)
        self.assertEqual(model.phase, "ended")
        self.assertTrue(model.all_lost(), (early, late, run))
        return True

    def test_all_pairs_over_the_entries_that_matter(self):
        # With the late tables in which nothing else is, and with those in which all else is, in turn.
        found = 0
        others_early = [entry for entry in ENTRIES if entry not in NAMED_EARLY]
        others_late = [entry for entry in ENTRIES if entry not in NAMED_LATE]
        for roots in ("once", "again"):
            earlies = [Table(*some, *rest, roots=roots) for some, rest in zip(subsets(NAMED_EARLY), [[], others_early] * 32)]
            lates = [Table(*some, *rest, fresh=fresh, roots=roots)
                     for some, rest in zip(subsets(NAMED_LATE), [[], others_late, others_late, []] * 64) for fresh in COLORS]
            for at, early in enumerate(earlies):
                for late in lates[at % 4::4]:
                    for scanning in SCANNINGS:
                        found += self.check(early, late, scanning)
        self.assertGreater(found, 20000)

    def test_chance(self):
        for chance in chances(1500, 180):
            early, late = likely_pair(chance)
            for scanning in SCANNINGS:
                self.check(early, late, scanning)

    def test_by_names(self):
        early, late = Table(("new", "black")), Table(("load", "white"))
        run = losing_threads(early, late)
        self.assertEqual(run, losing_threads(late=late, early=early, scanning="whole"))
        self.assertEqual({type(part) for part in (run, *run, *run[0][1], *run[1], *run[2])}, {tuple})
        self.assertIsNone(losing_threads(early, Table(("load", "grey"))))
        self.assertIsNotNone(losing_threads(early, Table(("load", "grey")), scanning="fields"))

    def test_mismatch(self):
        check_mismatch(self, losing_threads)
        check_mismatch(self, lambda early, late: losing_threads(early, late, scanning="fields"))


class Play(unittest.TestCase):
    def reason(self, run, early=Table(), late=Table(), **words):
        return reason_of(self, play_threads, early, late, run, **words)

    def test_a_run(self):
        cycle = play_threads(Table(), Table(), RUN)
        self.assertIs(type(cycle), ThreadCycle)
        self.assertEqual((cycle.steps, cycle.phase, cycle.lost, cycle.early, cycle.late), (STEPS, "ended", (1,), Table(), Table()))
        self.assertEqual(cycle, play_threads(run=RUN, late=Table(), early=Table(), scanning="whole"))
        for many in range(len(STEPS)):
            cycle = play_threads(Table(), Table(), RUN[:2] + (STEPS[:many],))
            self.assertEqual(cycle.steps, STEPS[:many])

    def test_chance(self):
        for chance in chances(150, 181):
            cycle = some_thread_cycle(chance, chance.choice(SCANNINGS))
            heap, threads = cycle.heap, cycle.threads
            list(wander(chance, cycle, 20))
            run = (heap, threads, cycle.steps)
            before = frozen(run)
            played = play_threads(cycle.early, cycle.late, run, scanning=cycle.scanning)
            self.assertEqual(played, cycle)
            self.assertEqual(run, before)
            self.assertEqual(played.undo(len(cycle.steps)), cycle.steps[::-1])
            self.assertEqual((played.heap, played.threads), (heap, threads))

    def test_which_table(self):
        grey = Table(("old", "grey"))
        self.assertEqual(self.reason(RUN, Table(), grey), "step")
        self.assertEqual(play_threads(grey, Table(), RUN).lost, (1,))

    def test_form(self):
        wrong_heaps = [(thing, RUN[1], STEPS) for thing in NO_HEAPS + ANY]
        wrong_threads = [(HEAP, thing, STEPS) for thing in [((0,),), ((0,),) * 5, [(0,), (0,)], ((0,), [0]), ((0,), ()), ((0,), (0,) * 4), ((0,), (2,)),
                                                            ((0,), (True,)), ((0,), None), (0, 1), ((0,), ("1",))] + ANY]
        wrong_steps = [(HEAP, RUN[1], thing) for thing in [list(STEPS), None, "x", STEPS[0], (STEPS,), {}, (None,), ([],), (("look",),), (("load", 0, 0, 0),)]
                       + [value for value in ANY if value != ()]]
        wrong_steps += [(HEAP, RUN[1], STEPS + (thing,)) for thing in ANY + [["end"], ("scan", 0, 0), ("end", 0), ("clear", 0, True)]]
        others = [RUN[:2], RUN + ((),), list(RUN), (RUN,), RUN[::-1]] + ANY
        for run in wrong_heaps + wrong_threads + wrong_steps + others:
            self.assertEqual(self.reason(run), "form")
        self.assertEqual(self.reason(RUN, scanning="fields"), "form")

    def test_four_hundred_steps(self):
        again = Table(roots="again")
        for many, reason in [(399, None), (400, "form")]:
            steps = (("start",),) + (("look", 0),) * many
            if reason is None:
                self.assertEqual(len(play_threads(again, again, (HEAP, RUN[1], steps)).steps), 400)
            else:
                self.assertEqual(self.reason((HEAP, RUN[1], steps), again, again), reason)

    def test_step(self):
        for step in [("start",), ("look", 2), ("load", 0, 1, 1, 0), ("move", 0, 0, 0), ("clear", 1, 0), ("scan", 0), ("end",), ("store", 0, 0, 4, None),
                     ("new", 1, 1)]:
            for at in (1, 2):
                run = RUN[:2] + ((("start",), ("move", 0, 1, 0))[:at] + (step,) + (("end",),),)
                self.assertEqual(self.reason(run), "step")
        self.assertEqual(self.reason(RUN[:2] + ((("look", 0),),)), "step")
        self.assertEqual(self.reason(RUN[:2] + (STEPS + (("end",),),)), "step")

    def test_two_at_once(self):
        # A step that is refused ahead of one that is none.
        self.assertEqual(self.reason(RUN[:2] + ((("end",), None),)), "form")
        self.assertEqual(self.reason((HEAP, ((0,),), (("end",),))), "form")

    def test_mismatch(self):
        for run in (RUN, None, (HEAP, (), ()), RUN[:2] + ((("end",),),)):
            check_mismatch(self, lambda early, late: play_threads(early, late, run))

    def test_some_threads(self):
        for chance in chances(60, 182):
            heap, (early, late) = some_heap(chance), some_pair(chance)
            threads = some_threads(chance, heap)
            self.assertEqual(play_threads(early, late, (heap, threads, ())), ThreadCycle(heap, threads, early=early, late=late))
