"""Point 87: states of threads in which one step breaks an invariant."""

import itertools
import unittest

from shadeguards.errors import NoInvariant
from shadeguards.tables import Table
from shadeguards.threadbreaking import check_thread_breaking, thread_breaking
from shadeguards.threadcycles import ThreadCycle
from shadeguards.threadinvariants import thread_holds
from shadeguards.threadneeds import is_thread_kept
from shadeguards.threadsteps import is_thread_state
from tests.test_thread_invariants import NO_NAMES, offenders
from tests.test_thread_needs import NEEDS, pairs_that_lack
from tests.test_thread_steps import RIGHT, WRONG
from tests.threadmodel import ThreadModel, likely_pair, some_pair, some_thread_state
from tests.values import ANY, chances, frozen, reason_of, without

SCANNINGS = ("whole", "fields")
NAMES = ("strong", "registers", "held", "paths")
HEAP = (1, ((None,), (None,)))
STATE = (HEAP, ((0, 1), (None,)), ("black", "white"), ((0,), ()), (False, False))
STORE = ("store", 0, 0, 0, 1)


class Breaking(unittest.TestCase):
    def check(self, early, late, name, scanning):
        found = thread_breaking(early, late, name, scanning=scanning)
        self.assertIs(found is None, is_thread_kept(early, late, name, scanning=scanning))
        if found is None:
            return False
        state, step = found
        self.assertTrue(is_thread_state(state, scanning=scanning))
        heap, threads, _, _, _ = state
        self.assertTrue(len(threads) == 2 and {len(registers) for registers in threads} <= {1, 2})
        self.assertTrue(len(heap[1]) <= 4 and heap[0] in (1, 2))
        # The second machine does the step, and the test looks at each place.
        model = ThreadModel(state, "marking", early, late, scanning)
        self.assertEqual(offenders(ThreadCycle.at(state, early, late, scanning=scanning), name), [])
        self.assertIsNone(model.thread_why(step))
        model.thread_do(step)
        self.assertTrue(offenders(ThreadCycle.at(model.thread_state(), early, late, scanning=scanning), name))
        self.assertIs(check_thread_breaking(early, late, name, found, scanning=scanning), True)
        self.assertEqual(thread_breaking(scanning=scanning, name=name, late=late, early=early), found)
        self.assertEqual((type(found), type(state), type(step)), (tuple, tuple, tuple))
        return True

    def test_pairs_that_lack_one_need(self):
        for (name, scanning), needs in NEEDS.items():
            for need in needs:
                for early, late in pairs_that_lack(needs, need):
                    self.assertTrue(self.check(early, late, name, scanning))
            for early, late in pairs_that_lack(needs):
                self.assertFalse(self.check(early, late, name, scanning))

    def test_chance(self):
        for chance in chances(400, 173):
            early, late = likely_pair(chance)
            for name in NAMES:
                for scanning in SCANNINGS:
                    self.check(early, late, name, scanning)

    def test_the_scanning_that_is_left_out(self):
        for name in NAMES:
            self.assertEqual(thread_breaking(Table(), Table(), name), thread_breaking(Table(), Table(), name, scanning="whole"))
        self.assertIsNone(thread_breaking(Table(("new", "black")), Table(("new", "black")), "strong"))
        self.assertIsNotNone(thread_breaking(Table(("new", "black")), Table(("new", "black")), "strong", scanning="fields"))

    def test_names_that_are_none(self):
        for name in NO_NAMES:
            before = frozen(name)
            for deed in [lambda: thread_breaking(Table(), Table(), name), lambda: check_thread_breaking(Table(), Table(), name, (STATE, STORE)),
                         lambda: check_thread_breaking(Table(), Table(), name, None, scanning="fields")]:
                with self.assertRaises(NoInvariant) as caught:
                    deed()
                self.assertIs(caught.exception.name, name)
            self.assertEqual(name, before)


class Check(unittest.TestCase):
    def reason(self, value, name="strong", early=Table(), late=Table(), **words):
        return reason_of(self, check_thread_breaking, early, late, name, value, **words)

    def test_form(self):
        for value in ANY + [[STATE, STORE], (STATE,), (STATE, STORE, STORE), {0: STATE, 1: STORE}, STATE, STORE, ()]:
            if type(value) is tuple and len(value) == 2:
                continue
            for name in NAMES:
                self.assertEqual(self.reason(value, name), "form")
                self.assertEqual(self.reason(value, name, scanning="fields"), "form")

    def test_state(self):
        for state in WRONG + without(ANY, RIGHT):
            for step in (STORE, ("start",), None, []):
                for scanning in SCANNINGS:
                    self.assertEqual(self.reason((state, step), scanning=scanning), "state")
        half = ((2, ((None, None), (None, None))), ((0, 1), (None,)), ("grey", "white"), ((0,), ()), (False, False))
        self.assertEqual(self.reason((half, STORE)), "state")
        self.assertIs(check_thread_breaking(Table(), Table(), "strong", (half, STORE), scanning="fields"), True)

    def test_before(self):
        broken = (HEAP[:1] + (((1,), (None,)),),) + STATE[1:]
        for name in NAMES:
            for step in (("store", 0, 0, 0, None), ("look", 9), None, ["start"], ("end",)):
                self.assertEqual(self.reason((broken, step), name), "before")
        late = STATE[:4] + ((True, False),)
        self.assertEqual([self.reason((late, None), name) for name in NAMES], ["step", "before", "before", "before"])

    def test_step(self):
        for step in [None, [], ("start",), ("look", 2), ("clear", 1, 0), ("store", 0, 0, 0), ["store", 0, 0, 0, 1], ("store", 0, 0, 0, True),
                     ("scan", 0), ("end",), ("move", 0, 0, 0)] + ANY:
            self.assertEqual(self.reason((STATE, step)), "step")
        done = ((1, ()), ((None,), (None,)), (), (), (True, True))
        for name in NAMES:
            # An end is possible, but changes nothing.
            self.assertEqual(self.reason((done, ("end",)), name), "after")

    def test_after(self):
        guarded = Table(("new", "black"))
        for name in NAMES:
            self.assertIs(check_thread_breaking(Table(), Table(), name, (STATE, STORE)), True)
            self.assertIs(check_thread_breaking(value=(STATE, STORE), name=name, late=Table(), early=Table(), scanning="whole"), True)
            self.assertIs(check_thread_breaking(Table(), guarded, name, (STATE, STORE)), True)
            self.assertEqual(self.reason((STATE, STORE), name, guarded, Table()), "after")
            self.assertEqual(self.reason((STATE, ("store", 0, 0, 0, 0)), name), "after")

    def test_two_at_once(self):
        broken = (HEAP[:1] + (((1,), (None,)),),) + STATE[1:]
        self.assertEqual(self.reason((STATE, None, None)), "form")
        self.assertEqual(self.reason((list(broken), None)), "state")
        self.assertEqual(self.reason((broken, None)), "before")
        self.assertEqual(self.reason((STATE, ("clear", 9, 0)), "strong", Table(("new", "black")), Table()), "step")

    def test_chance(self):
        seen = set()
        for chance in chances(600, 174):
            scanning, name = chance.choice(SCANNINGS), chance.choice(NAMES)
            early, late = some_pair(chance)
            state = some_thread_state(chance, scanning, most=3, width=chance.randint(1, 2))
            cycle = ThreadCycle.at(state, early, late, scanning=scanning)
            step = chance.choice(list(cycle.moves()) + [("start",), ("look", 4)])
            if offenders(cycle, name):
                expected = "before"
            elif cycle.why(step) is not None:
                expected = "step"
            else:
                cycle.step(step)
                expected = None if offenders(cycle, name) else "after"
            if expected is None:
                self.assertIs(check_thread_breaking(early, late, name, (state, step), scanning=scanning), True)
                self.assertFalse(is_thread_kept(early, late, name, scanning=scanning))
            else:
                self.assertEqual(self.reason((state, step), name, early, late, scanning=scanning), expected)
            seen.add(expected)
        self.assertEqual(seen, {"before", "step", "after", None})

    def test_more_threads_and_registers(self):
        # The checker accepts states that thread_breaking does not make.
        for threads, looked in [(((0, 1, None), (None,), (0, 0)), (False, True, False)), (((0, 1), (0,), (0,), (None,)), (False,) * 4)]:
            state = (HEAP, threads, ("black", "white"), ((0,), ()), looked)
            for name, scanning in itertools.product(NAMES, SCANNINGS):
                self.assertIs(check_thread_breaking(Table(), Table(), name, (state, STORE), scanning=scanning), True)
                self.assertTrue(thread_holds(ThreadCycle.at(state, Table(), Table()), name))
