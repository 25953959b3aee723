"""Points 48 and 50: the search of one heap."""

import unittest
from unittest import mock

from shadeguards import exploring
from shadeguards.closedchecks import check_closed
from shadeguards.errors import TooMany
from shadeguards.searching import search
from shadeguards.steps import step_rank
from shadeguards.tables import Table
from tests.model import all_steps, is_bad, lost_objects, met_states, model_at, reached, start_model
from tests.values import chances, check_goals_that_are_none, frozen, some_heap, some_registers, some_table

PAIR = (1, ((1,), (None,)))
SINGLE = (1, ((None,),))


def expected_search(table, heap, registers, goal, scanning, extra, limit):
    """What a search returns, or "many", by going through all states with the other machine."""
    paths = met_states(table, heap, registers, scanning, extra, limit + 1)
    old = reached(heap[1], registers)
    for state in list(paths)[:limit]:
        if is_bad(state, table, goal, scanning, old):
            return "found", paths[state] + (("end",),)
    return "many" if len(paths) > limit else ("closed", tuple(paths))


def least_losing(table, heap, registers, scanning, longest):
    """The least run that loses an object, by trying all runs in order: first the short ones, then the lesser ones."""
    many, width = len(heap[1]), heap[0]

    def tried(model, steps, left):
        for step in all_steps(scanning, len(registers), width, many):
            if step[0] in ("start", "new") or (step[0] == "end") != (left == 1) or model.why(step) is not None:
                continue
            after = model_at(model.state(), table, scanning)
            after.do(step)
            if step[0] == "end":
                return steps + (step,) if lost_objects(after) else None
            found = tried(after, steps + (step,), left - 1)
            if found is not None:
                return found
        return None

    for length in range(2, longest + 1):
        model = start_model(table, heap, registers, scanning)
        model.do(("start",))
        found = tried(model, (("start",),), length - 1)
        if found is not None:
            return found
    return None


class Found(unittest.TestCase):
    def test_at_once(self):
        # The start shades nothing here, and the white new object of the last line is not lost before it is made.
        self.assertEqual(search(Table(), (1, ()), (None,)), ("closed", (((1, ()), (None,), (), ()),)))
        word, steps = search(Table(fresh="white"), (1, ()), (None,), extra=1)
        self.assertEqual((word, steps), ("found", (("start",), ("new", 0), ("end",))))

    def test_goals(self):
        self.assertEqual(search(Table(), PAIR, (0,))[0], "closed")
        self.assertEqual(search(Table(), PAIR, (0,), goal="snapshot"),
                         ("found", (("start",), ("store", 0, 0, None), ("scan", 0), ("end",))))
        self.assertEqual(search(Table(), PAIR, (0, None), goal="snapshot"),
                         ("found", (("start",), ("store", 0, 0, None), ("scan", 0), ("end",))))
        self.assertEqual(search(table=Table(), registers=(0, None), heap=PAIR, limit=400, extra=0, scanning="whole", goal="safe"),
                         search(Table(), PAIR, (0, None)))

    def test_scannings(self):
        word, steps = search(Table(), PAIR, (0, None), scanning="fields")
        self.assertEqual((word, steps), ("found", (("start",), ("load", 1, 0, 0), ("store", 0, 0, None), ("scan", 0, 0), ("end",))))
        heap = (2, ((None, None),))
        for scanning, many in [("whole", 32), ("fields", 64)]:
            word, states = search(Table(), heap, (0, None), scanning=scanning)
            self.assertEqual((word, len(states)), ("closed", many))
            self.assertEqual(any(len(state[3][0]) == 1 for state in states), scanning == "fields")

    def test_the_least_run(self):
        cases = [
            (Table(), PAIR, (0, None), 5), (Table(("new", "grey"), ("load", "white")), PAIR, (0, None), 5),
            (Table(), (1, ((1,), (None,))), (None, 0), 5), (Table(), (1, ((1,), (0,))), (0, None), 5),
            (Table(("load", "black"), fresh="grey"), PAIR, (0, 0), 5), (Table(("old", "white")), (1, ((None,), (0,))), (None, 1), 5),
        ]
        for table, heap, registers, length in cases:
            for scanning in ("whole", "fields"):
                word, steps = search(table, heap, registers, scanning=scanning)
                self.assertEqual((word, len(steps)), ("found", length))
                self.assertEqual(steps, least_losing(table, heap, registers, scanning, length))
        with_wide = (2, ((None, 1), (None, None)))
        word, steps = search(Table(), with_wide, (0, None))
        self.assertEqual(steps, least_losing(Table(), with_wide, (0, None), "whole", 5))

    def test_kinds(self):
        found = search(Table(), PAIR, (0, None))
        self.assertEqual([type(part) for part in (found, *found, *found[1])], [tuple, str] + [tuple] * 6)
        closed = search(Table(), SINGLE, (0,))
        self.assertEqual([type(part) for part in (closed, *closed, closed[1][0])], [tuple, str, tuple, tuple])


class Chance(unittest.TestCase):
    def test_all_results(self):
        seen = set()
        for chance in chances(220, 54):
            scanning, goal = chance.choice(("whole", "fields")), chance.choice(("safe", "snapshot"))
            heap = some_heap(chance, most=3, width=chance.choice((1, 1, 2)))
            registers = some_registers(chance, heap, chance.choice((1, 1, 2)))
            table, extra, limit = some_table(chance), chance.choice((0, 0, 1, 2, 3)), chance.randint(1, 60)
            expected = expected_search(table, heap, registers, goal, scanning, extra, limit)
            words = {"goal": goal, "scanning": scanning, "extra": extra, "limit": limit}
            before = frozen((heap, registers))
            if expected == "many":
                seen.add("many")
                with self.assertRaises(TooMany) as caught:
                    search(table, heap, registers, **words)
                self.assertEqual(caught.exception.limit, limit)
            else:
                seen.add((expected[0], scanning, goal))
                self.assertEqual(search(table, heap, registers, **words), expected)
            self.assertEqual((heap, registers), before)
        self.assertEqual(len(seen), 9)

    def test_limits(self):
        for chance in chances(40, 55):
            scanning, goal = chance.choice(("whole", "fields")), chance.choice(("safe", "snapshot"))
            heap = some_heap(chance, most=2, width=1)
            registers, table = some_registers(chance, heap, chance.choice((1, 2))), some_table(chance)
            paths = list(met_states(table, heap, registers, scanning, 0, 501))
            if len(paths) > 500:
                continue
            old = reached(heap[1], registers)
            bad = [at for at, state in enumerate(paths) if is_bad(state, table, goal, scanning, old)]
            needed = bad[0] + 1 if bad else len(paths)
            words = {"goal": goal, "scanning": scanning}
            found = search(table, heap, registers, limit=needed, **words)
            self.assertEqual(found[0], "found" if bad else "closed")
            self.assertEqual(search(table, heap, registers, limit=500, **words), found)
            self.assertEqual(search(table, heap, registers, **words), found)
            if needed > 1:
                with self.assertRaises(TooMany) as caught:
                    search(table, heap, registers, limit=needed - 1, **words)
                self.assertEqual(caught.exception.limit, needed - 1)

    def test_the_default_limit(self):
        with self.assertRaises(TooMany) as caught:
            search(Table.full(), (1, ((1,), (2,), (3,), (None,))), (0, 1, 2))
        self.assertEqual(caught.exception.limit, 500)

    def test_a_bad_state_behind_the_limit(self):
        # The first two states are met and right, the third one is not asked for.
        table = Table(fresh="white")
        self.assertEqual(search(table, (1, ()), (None,), extra=1, limit=2)[0], "found")
        with self.assertRaises(TooMany):
            search(table, (1, ()), (None,), extra=1, limit=1)


class New(unittest.TestCase):
    def test_extra(self):
        table = Table(fresh="grey")
        for extra in range(4):
            word, states = search(table, (1, ()), (None,), extra=extra)
            self.assertEqual(word, "closed")
            self.assertEqual({len(state[2]) for state in states}, set(range(extra + 1)))
            self.assertEqual(list(states), list(met_states(table, (1, ()), (None,), "whole", extra, 500)))

    def test_forty_objects(self):
        heap = (1, ((None,),) * 40)
        for extra in range(4):
            word, states = search(Table(), heap, (0,), extra=extra)
            self.assertEqual((word, len(states)), ("closed", 8))
            self.assertEqual({len(state[2]) for state in states}, {40})
        less = (1, ((None,),) * 39)
        for extra, most in [(0, 39), (1, 40), (2, 40), (3, 40)]:
            word, states = search(Table(), less, (0,), extra=extra)
            self.assertEqual((word, max(len(state[2]) for state in states)), ("closed", most))
            self.assertEqual(search(Table(), less, (0,), extra=1), search(Table(), less, (0,), extra=3))


class Goals(unittest.TestCase):
    def test_goals_that_are_none(self):
        check_goals_that_are_none(self, lambda goal: search(Table(), PAIR, (0,), goal=goal), "bounded")
        check_goals_that_are_none(self, lambda goal: search(Table(), PAIR, (0,), limit=1, goal=goal), "bounded")


class Order(unittest.TestCase):
    def test_steps_are_tried_in_their_order(self):
        # The states that lie one step behind the first one come in the order of the least steps that lead to them.
        heap = (2, ((1, 2), (None, 0), (None, None)))
        for scanning in ("whole", "fields"):
            table = Table(("load", "grey"), ("old", "grey"))
            paths = met_states(table, heap, (0, 1), scanning, 1, 30)
            ranks = [[step_rank(step) for step in steps] for steps in paths.values()]
            self.assertEqual(ranks, sorted(ranks, key=lambda rank: (len(rank), rank)))


class Large(unittest.TestCase):
    """Searches of small heaps with many steps from each state."""

    TABLE = Table(("new", "grey"))
    SIX = ((1, ((None,),)), (0, None, None, None, None, None))
    TWO = ((1, ((0,), (None,))), (0, 1))

    def check(self, table, heap, registers, **words):
        words = {"goal": "safe", "scanning": "fields", "extra": 0, "limit": 500, **words}
        expected = expected_search(table, heap, registers, **words)
        self.assertEqual(search(table, heap, registers, **words), expected)
        return expected

    def test_closed_ones(self):
        for (heap, registers), many in [(self.SIX, 256), (self.TWO, 324)]:
            word, states = self.check(self.TABLE, heap, registers)
            self.assertEqual((word, len(states)), ("closed", many))
            self.assertIs(check_closed(self.TABLE, heap, registers, states, scanning="fields"), True)
            # With one state less a step leads out of them.
            for at in range(1, many, 40):
                with self.assertRaises(ValueError) as caught:
                    check_closed(self.TABLE, heap, registers, states[:at] + states[at + 1:], scanning="fields")
                self.assertEqual(caught.exception.reason, "step")
            with self.assertRaises(TooMany):
                search(self.TABLE, heap, registers, scanning="fields", limit=many - 1)

    def test_the_goal_snapshot(self):
        for table in (self.TABLE, Table(("load", "grey"), ("old", "grey"))):
            for heap, registers in (self.SIX, self.TWO):
                self.assertEqual(self.check(table, heap, registers, goal="snapshot")[0], "closed")
        self.assertEqual(self.check(self.TABLE, (1, ((1,), (None,))), (0, None, 0), goal="snapshot"),
                         ("found", (("start",), ("store", 0, 0, None), ("scan", 0, 0), ("end",))))

    def test_one_more_object(self):
        word, states = self.check(self.TABLE, (1, ((None,),)), (0,), extra=1)
        self.assertEqual((word, {len(state[2]) for state in states}), ("closed", {1, 2}))
        self.assertEqual(self.check(Table(fresh="white"), (1, ((None,),)), (0, None, 0), extra=1)[0], "found")
        with self.assertRaises(TooMany):
            search(self.TABLE, *self.SIX, scanning="fields", extra=1)

    def test_few_states_are_made(self):
        # Steps that read another register with the same object are not performed once more.
        for (heap, registers), most in [(self.SIX, 20), (self.TWO, 10)]:
            with mock.patch.object(exploring, "state_after", wraps=exploring.state_after) as made:
                _, states = search(self.TABLE, heap, registers, scanning="fields")
            self.assertLessEqual(made.call_count, most * len(states))
