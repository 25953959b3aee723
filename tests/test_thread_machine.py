"""Points 76 to 78: what thread steps do, why they are refused, and which ones are possible."""

import itertools
import unittest

from shadeguards.entries import COLORS, ENTRIES
from shadeguards.errors import InvalidStep
from shadeguards.tables import Table
from shadeguards.threadcycles import ThreadCycle
from shadeguards.threadsteps import is_thread_state, is_thread_step, thread_step_rank
from tests.threadmodel import (
    THREAD_REASONS, ThreadModel, nearby_thread_steps, some_pair, some_thread_cycle, some_thread_state, thread_model,
)
from tests.values import ANY, chances, frozen, wander

SCANNINGS = ("whole", "fields")
ROOTS = ("once", "again")
VISITED = {"white": (), "grey": (), "black": (0,)}


def at(state, early=Table(), late=Table(), scanning="whole"):
    return ThreadCycle.at(state, early, late, scanning=scanning)


def changes_of(entry, fresh="black", roots="once"):
    """A table with this entry, and one without it."""
    others = [one for one in ENTRIES if one != entry]
    for rest in ([], others):
        yield Table(entry, *rest, fresh=fresh, roots=roots), Table(*rest, fresh=fresh, roots=roots)


class OneEntry(unittest.TestCase):
    """Each kind of step by an early and by a late thread: the tables differ in one entry, and only one of them counts."""

    def check(self, thread_step, make_state, entry, shaded):
        for scanning, roots, late in itertools.product(SCANNINGS, ROOTS, (False, True)):
            state = make_state(late)
            for having, lacking in changes_of(entry, roots=roots):
                for of_early, of_late in [(having, lacking), (lacking, having)]:
                    cycle = at(state, of_early, of_late, scanning)
                    counts = (of_late if late else of_early) is having
                    told = cycle.step(thread_step)[0]
                    self.assertIs(shaded in told, counts, (thread_step, entry, late))
                    self.assertEqual(cycle.colors[shaded], "grey" if counts else state[2][shaded])

    def test_loads(self):
        heap = (1, ((1,), (None,)))
        for color in COLORS:
            def state(late):
                # The other thread is of the other kind.
                return heap, ((0, None), (0,)), (color, "white"), (VISITED[color], ()), (late, not late)
            self.check(("load", 0, 1, 0, 0), state, ("load", color), 1)

    def test_stores(self):
        heap = (1, ((1,), (None,), (None,)))
        for color in COLORS:
            def state(late):
                return heap, ((None,), (0, 2)), (color, "white", "white"), (VISITED[color], (), ()), (not late, late)
            self.check(("store", 1, 0, 0, 1), state, ("old", color), 1)
            self.check(("store", 1, 0, 0, 1), state, ("new", color), 2)
            self.check(("store", 1, 0, 0, None), state, ("old", color), 1)
            if color != "grey":
                self.check(("store", 1, 0, 0, None), state, ("source", color), 0)

    def test_sources_that_are_grey(self):
        heap = (2, ((None, None),))
        for late in (False, True):
            for having, lacking in changes_of(("source", "grey")):
                for of_early, of_late in [(having, lacking), (lacking, having)]:
                    state = (heap, ((0,), (0,)), ("grey",), ((1,),), (late, not late))
                    cycle = at(state, of_early, of_late, "fields")
                    self.assertEqual(cycle.step(("store", 0, 0, 0, None)), ((),))
                    self.assertEqual(cycle.visited, ((),) if (of_late if late else of_early) is having else ((1,),))

    def test_new_objects(self):
        for scanning, roots, late, fresh, other in itertools.product(SCANNINGS, ROOTS, (False, True), COLORS, COLORS):
            tables = Table(fresh=fresh, roots=roots), Table(fresh=other, roots=roots)
            cycle = at(((2, ()), ((None, None), (None,)), (), (), (late, not late)), *tables, scanning)
            self.assertEqual(cycle.step(("new", 0, 1)), ((),))
            color = other if late else fresh
            self.assertEqual(cycle.state, ((2, ((None, None),)), ((None, 0), (None,)), (color,),
                                           ((0, 1) if color == "black" else (),), (late, not late)))

    def test_moves_and_clears_shade_nothing(self):
        for roots, late in itertools.product(ROOTS, (False, True)):
            full = Table.full(roots=roots)
            state = ((1, ((None,),)), ((0, None), (None,)), ("white",), ((),), (late, not late))
            cycle = at(state, full, full)
            self.assertEqual(cycle.step(("move", 0, 1, 0), ("clear", 0, 0)), ((), ()))
            self.assertEqual((cycle.threads, cycle.colors, cycle.looked), (((None, 0), (None,)), ("white",), (late, not late)))

    def test_scans_and_looks_do_not_depend_on_the_tables(self):
        for roots, scanning in itertools.product(ROOTS, SCANNINGS):
            scan = ("scan", 0) if scanning == "whole" else ("scan", 0, 1)
            found = set()
            for entries in ([], ENTRIES):
                table = Table(*entries, fresh="white" if entries else "black", roots=roots)
                state = ((2, ((None, 1), (None, None), (None, None))), ((None,), (2, 1)), ("grey", "white", "white"), ((),) * 3, (True, False))
                cycle = at(state, table, Table(roots=roots), scanning)
                self.assertEqual(cycle.step(scan, ("look", 1)), ((1,), (2,)))
                found.add(cycle.state)
            self.assertEqual(len(found), 1)


class Looks(unittest.TestCase):
    def test_the_start_shades_nothing(self):
        for roots in ROOTS:
            cycle = ThreadCycle((1, ((None,), (None,))), ((0,), (1,)), early=Table.full(roots=roots), late=Table.full(roots=roots))
            self.assertEqual(cycle.step(("start",)), ((),))
            self.assertEqual((cycle.colors, cycle.looked, cycle.phase), (("white", "white"), (False, False), "marking"))

    def test_one_thread_alone(self):
        heap = (1, ((None,),) * 4)
        for roots in ROOTS:
            table = Table(roots=roots)
            cycle = ThreadCycle(heap, ((0, None, 1), (2,), (0, 3)), early=table, late=table)
            cycle.step(("start",))
            self.assertEqual(cycle.step(("look", 2)), ((0, 3),))
            self.assertEqual((cycle.colors, cycle.looked), (("grey", "white", "white", "grey"), (False, False, True)))
            self.assertEqual(cycle.step(("look", 0), ("look", 1)), ((1,), (2,)))
            self.assertEqual(cycle.looked, (True, True, True))

    def test_a_look_shades_white_objects_only(self):
        state = ((1, ((None,),) * 3), ((0, 1, 2), (None,)), ("black", "white", "grey"), ((0,), (), ()), (False, False))
        cycle = at(state)
        self.assertEqual(cycle.step(("look", 0)), ((1,),))
        self.assertEqual((cycle.colors, cycle.visited), (("black", "grey", "grey"), ((0,), (), ())))

    def test_again(self):
        state = ((1, ((None,),)), ((0,), (None,)), ("white",), ((),), (True, False))
        again = Table(roots="again")
        self.assertEqual(at(state).why(("look", 0)), "look")
        cycle = at(state, again, again)
        self.assertEqual(cycle.step(("look", 0), ("look", 0)), ((0,), ()))
        self.assertEqual(cycle.looked, (True, False))


class Ends(unittest.TestCase):
    def test_nothing_changes_but_the_phase(self):
        state = ((1, ((1,), (None,))), ((0,), (None,)), ("black", "white"), ((0,), ()), (True, True))
        for roots, scanning in itertools.product(ROOTS, SCANNINGS):
            table = Table.full(roots=roots)
            cycle = at(state, table, table, scanning)
            self.assertEqual(cycle.step(("end",)), ((),))
            self.assertEqual((cycle.state, cycle.phase, cycle.lost, cycle.freed), (state, "ended", (1,), (1,)))
            self.assertEqual(list(cycle.moves()), [])

    def test_reasons(self):
        again = Table(roots="again")
        for grey, early, white in itertools.product((False, True), repeat=3):
            colors = ("grey" if grey else "black", "white")
            state = ((1, ((None,), (None,))), ((0,), (1 if white else None,)), colors, (() if grey else (0,), ()), (not early, True))
            for table in (Table(), again):
                reasons = ["grey"] * grey + ["early"] * early + ["white"] * (white and table is again)
                self.assertEqual(at(state, table, table).why(("end",)), (reasons + [None])[0])

    def test_white_objects_in_any_thread(self):
        again = Table(roots="again")
        for u, r in itertools.product(range(3), range(2)):
            threads = tuple(tuple(0 if (u, r) == place else None for place in ((v, 0), (v, 1))) for v in range(3))
            cycle = at(((1, ((None,),)), threads, ("white",), ((),), (True,) * 3), again, again)
            self.assertEqual(cycle.why(("end",)), "white")


class Reasons(unittest.TestCase):
    STATE = ((2, ((1, None), (None, None), (None, None))), ((0, None), (1, 2, 2)), ("grey", "white", "black"), ((1,), (), (0, 1)),
             (False, True))

    def check(self, expected, **words):
        for thread_step, reason in expected:
            cycle = at(self.STATE, scanning="fields", **words)
            before = cycle.twin()
            self.assertEqual(cycle.why(thread_step), reason, thread_step)
            self.assertEqual(cycle.why(step=thread_step), reason)
            if reason is not None:
                with self.assertRaises(InvalidStep) as caught:
                    cycle.step(("look", 0), thread_step, ("never",))
                self.assertEqual((caught.exception.index, caught.exception.reason), (1, reason))
            self.assertEqual(cycle, before)

    def test_one_reason(self):
        self.check([
            (("look",), "form"), (("scan", 0), "form"), (("start",), "phase"), (("load", 2, 0, 0, 0), "thread"), (("look", 2), "thread"),
            (("store", 4, 0, 0, None), "thread"), (("move", 2, 0, 1), "thread"), (("clear", 2, 0), "thread"), (("new", 9, 0), "thread"),
            (("load", 0, 2, 0, 0), "register"), (("load", 0, 0, 2, 0), "register"), (("load", 1, 2, 3, 0), "register"),
            (("store", 0, 2, 0, None), "register"), (("store", 0, 0, 0, 2), "register"), (("move", 0, 0, 2), "register"),
            (("move", 0, 2, 0), "register"), (("clear", 0, 2), "register"), (("new", 0, 2), "register"), (("new", 1, 3), "register"),
            (("move", 0, 0, 0), "same"), (("move", 1, 2, 2), "same"), (("load", 0, 0, 1, 0), "empty"), (("store", 0, 1, 0, None), "empty"),
            (("store", 0, 0, 0, 1), "empty"), (("move", 0, 0, 1), "empty"), (("clear", 0, 1), "empty"), (("scan", 3, 0), "object"),
            (("load", 0, 0, 0, 2), "field"), (("store", 0, 0, 2, None), "field"), (("scan", 0, 2), "field"), (("scan", 1, 0), "color"),
            (("scan", 2, 0), "color"), (("scan", 0, 1), "visited"), (("look", 1), "look"), (("end",), "grey"),
        ])

    def test_possible_steps(self):
        self.check([
            (("load", 0, 1, 0, 0), None), (("load", 1, 2, 2, 1), None), (("store", 1, 1, 0, 2), None), (("store", 0, 0, 1, None), None),
            (("move", 1, 0, 2), None), (("clear", 1, 2), None), (("new", 0, 1), None), (("scan", 0, 0), None), (("look", 0), None),
        ])

    def test_two_and_three_at_once(self):
        self.check([
            (("load", 2, 9, 9, 9), "thread"), (("move", 2, 9, 9), "thread"), (("store", 3, 9, 9, 9), "thread"), (("load", 0, 2, 1, 9), "register"),
            (("load", 0, 0, 1, 9), "empty"), (("store", 0, 1, 9, 5), "register"), (("store", 0, 1, 9, 1), "empty"), (("move", 0, 9, 9), "register"),
            (("move", 0, 1, 1), "same"), (("scan", 9, 9), "object"), (("scan", 1, 9), "field"), (("scan", 2, 9), "field"), (("scan", 2, 1), "color"),
            (("look", True), "form"), (("load", 9, -1, 0, 0), "form"),
        ])
        again = Table(roots="again")
        self.check([(("look", 1), None), (("look", 2), "thread"), (("end",), "grey")], early=again, late=again)

    def test_full(self):
        for many, reason in ((39, None), (40, "full")):
            cycle = ThreadCycle((1, ((None,),) * many), ((0,), (None, None)))
            cycle.step(("start",))
            for u, r in [(0, 0), (1, 0), (1, 1)]:
                self.assertEqual(cycle.why(("new", u, r)), reason)
            self.assertEqual(cycle.why(("new", 1, 2)), "register")
            self.assertEqual(cycle.why(("new", 2, 0)), "thread")

    def test_phases(self):
        cycle = ThreadCycle((1, ()), ((None,), (None,)))
        for phase in ("ready", "marking", "ended"):
            self.assertEqual(cycle.phase, phase)
            for thread_step in nearby_thread_steps(cycle):
                is_start = thread_step == ("start",)
                self.assertIs(cycle.why(thread_step) == "phase", phase == "ended" or is_start != (phase == "ready"), thread_step)
            if phase == "ready":
                cycle.step(("start",))
            elif phase == "marking":
                cycle.step(("look", 0), ("look", 1), ("end",))

    def test_any_value(self):
        for cycle in [ThreadCycle((1, ()), ((None,), (None,))), at(self.STATE[:3] + (((), (), (0, 1)), (False, True)))]:
            before = cycle.twin()
            for thing in ANY + [["start"], ("start", 0), ("load", 0, 0, 0), ("look",), ("look", False), ("clear", 0), ("look", "0")]:
                kept = frozen(thing)
                self.assertEqual(cycle.why(thing), "form")
                with self.assertRaises(InvalidStep) as caught:
                    cycle.step(thing, ("start",))
                self.assertEqual((caught.exception.index, caught.exception.reason), (0, "form"))
                self.assertEqual((cycle, thing), (before, kept))


class AllSteps(unittest.TestCase):
    """`why` and `moves` against the second machine, over all thread steps that name what exists or one more."""

    def compare(self, cycle):
        model = ThreadModel(cycle.state, cycle.phase, cycle.early, cycle.late, cycle.scanning)
        possible, before = [], cycle.twin()
        for thread_step in nearby_thread_steps(cycle):
            reason = model.thread_why(thread_step)
            self.assertEqual(cycle.why(thread_step), reason, thread_step)
            self.reasons.add(reason)
            if reason is None:
                possible.append(thread_step)
        found = list(cycle.moves())
        self.assertEqual(found, possible)
        self.assertEqual(found, sorted(found, key=thread_step_rank))
        self.assertTrue(all(type(one) is tuple and is_thread_step(one, scanning=cycle.scanning) for one in found))
        self.assertEqual(cycle, before)

    def test_any_state_and_on_the_way(self):
        self.reasons = set()
        for chance in chances(80, 150):
            scanning = chance.choice(SCANNINGS)
            state = some_thread_state(chance, scanning, most=4, width=chance.randint(1, 2))
            self.compare(at(state, *some_pair(chance), scanning))
        for chance in chances(12, 151):
            cycle = some_thread_cycle(chance, chance.choice(SCANNINGS), most=3, width=chance.randint(1, 2))
            self.compare(cycle)
            for _ in wander(chance, cycle, 15):
                self.compare(cycle)
        heap = (2, ((1, None),) * 40)
        for table in (Table(), Table.full(roots="again")):
            cycle = ThreadCycle(heap, ((0, 1, None), (39,), (5, None), (7, 7, 7)), early=table, late=table)
            cycle.step(("start",), ("look", 3))
            self.compare(cycle)
        again = Table(roots="again")
        self.compare(at(((1, ((None,),)), ((None,), (0,)), ("white",), ((),), (True, True)), again, again))
        self.assertEqual(self.reasons, set(THREAD_REASONS) | {None, "phase"})


class Chance(unittest.TestCase):
    def compare(self, cycle, model, chance, many):
        for thread_step, told in wander(chance, cycle, many):
            self.assertEqual(told, (model.thread_do(thread_step),))
            self.assertEqual((cycle.state, cycle.phase), (model.thread_state(), model.phase))
            self.assertEqual(set(cycle.lost), model.all_lost())
            self.assertTrue(is_thread_state(cycle.state, scanning=cycle.scanning))

    def test_from_the_beginning(self):
        for chance in chances(120, 152):
            cycle = some_thread_cycle(chance, chance.choice(SCANNINGS))
            self.compare(cycle, thread_model(cycle.heap, cycle.threads, cycle.early, cycle.late, cycle.scanning), chance, 40)

    def test_from_any_state(self):
        for chance in chances(120, 153):
            scanning = chance.choice(SCANNINGS)
            state, tables = some_thread_state(chance, scanning), some_pair(chance)
            self.compare(at(state, *tables, scanning), ThreadModel(state, "marking", *tables, scanning), chance, 15)

    def test_at_once_or_one_by_one(self):
        for chance in chances(40, 154):
            one = some_thread_cycle(chance, chance.choice(SCANNINGS))
            other = one.twin()
            told = [item for _, item in wander(chance, one, 25)]
            self.assertEqual(other.step(*one.steps), tuple(item[0] for item in told))
            self.assertEqual(one, other)
            self.assertEqual(one.step(), ())

    def test_anywhere_in_a_call(self):
        for chance in chances(40, 155):
            cycle = some_thread_cycle(chance, chance.choice(SCANNINGS))
            before, double = cycle.twin(), cycle.twin()
            steps = [thread_step for thread_step, _ in wander(chance, double, 10)]
            at_wrong = chance.randint(1, len(steps))
            for wrong, reason in [(None, "form"), (("look",), "form"), (["end"], "form"), (("start",), "phase")]:
                with self.assertRaises(InvalidStep) as caught:
                    cycle.step(*steps[:at_wrong], wrong, *steps[at_wrong:], "never")
                self.assertEqual((caught.exception.index, caught.exception.reason), (at_wrong, reason))
                self.assertEqual(cycle, before)
                self.assertEqual(cycle.steps, ())
