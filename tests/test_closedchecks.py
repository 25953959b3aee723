"""Points 49 and 51: closed sets."""

import unittest

from shadeguards.closedchecks import check_closed
from shadeguards.searching import search
from shadeguards.tables import Table
from tests.model import is_bad, met_behind, met_states, reached
from tests.values import ANY, chances, check_goals_that_are_none, reason_of, some_heap, some_registers, some_table, without

PAIR = (1, ((1,), (None,)))
SAFE = Table(("load", "grey"))


def closed(table, heap, registers, **words):
    word, states = search(table, heap, registers, **words)
    if word != "closed":
        raise AssertionError(word)
    return states


class CheckClosed(unittest.TestCase):
    def reason(self, *args, **words):
        return reason_of(self, check_closed, *args, **words)

    def test_any_order(self):
        states = closed(SAFE, PAIR, (0, None))
        self.assertGreater(len(states), 10)
        for chance in chances(10, 56):
            mixed = tuple(chance.sample(states, len(states)))
            self.assertIs(check_closed(SAFE, PAIR, (0, None), mixed), True)
        self.assertIs(check_closed(states=states[::-1], registers=(0, None), heap=PAIR, table=SAFE, extra=0, scanning="whole",
                                   goal="safe"), True)

    def test_large_ones(self):
        states = closed(SAFE, PAIR, (0, None), scanning="fields")
        self.assertGreater(len(states), 300)
        self.assertIs(check_closed(SAFE, PAIR, (0, None), states, scanning="fields"), True)

    def test_one_left_out(self):
        states = closed(SAFE, PAIR, (0,))
        for at in range(len(states)):
            rest = states[:at] + states[at + 1:]
            self.assertEqual(self.reason(SAFE, PAIR, (0,), rest), "step" if at else "start")
        self.assertEqual(self.reason(SAFE, PAIR, (0, None), ()), "start")

    def test_shape(self):
        states = closed(SAFE, PAIR, (0, None))
        more = [
            states[0], states[-1], ((2, ((1, None), (None, None))),) + states[0][1:], (states[0][0], (0,)) + states[0][2:],
            (states[0][0], (0, None, None)) + states[0][2:], ((1, ((None,),)), (0, None), ("grey",), ((),)),
            (states[0][0], (0, False)) + states[0][2:], states[0][:3], list(states[0]),
            states[0][:2] + (("grey", "white"), ((0,), ())), states[0][:3] + (((0,), ()),), states,
        ]
        for thing in more + ANY:
            for things in [states + (thing,), (thing,) + states, (thing, thing)]:
                self.assertEqual(self.reason(SAFE, PAIR, (0, None), things), "shape")
                # Beside each later reason.
                self.assertEqual(self.reason(SAFE, PAIR, (0, None), things[2:] + (thing, thing)), "shape")
        for thing in without(ANY, ()) + [list(states), {0: states}, states[0]]:
            self.assertEqual(self.reason(SAFE, PAIR, (0, None), thing), "shape")

    def test_states_of_the_other_scanning(self):
        heap = (2, ((None, None),))
        whole = closed(SAFE, heap, (0, None))
        fields = closed(SAFE, heap, (0, None), scanning="fields")
        self.assertIs(check_closed(SAFE, heap, (0, None), fields, scanning="fields"), True)
        self.assertEqual(self.reason(SAFE, heap, (0, None), fields), "shape")
        self.assertEqual(self.reason(SAFE, heap, (0, None), whole, scanning="fields"), "step")

    def test_start(self):
        # A closed set for other registers, where the first state is another one.
        states = closed(SAFE, PAIR, (1, None))
        self.assertEqual(self.reason(SAFE, PAIR, (0, None), states), "start")
        self.assertIs(check_closed(SAFE, PAIR, (1, None), states), True)
        # Before "step" and before "bad".
        self.assertEqual(self.reason(SAFE, PAIR, (0, None), states[1:]), "start")
        bad = (PAIR, (1, None), ("black", "white"), ((0,), ()))
        self.assertEqual(self.reason(SAFE, PAIR, (0, None), (bad,)), "start")

    def test_step_and_bad(self):
        bad = ((1, ((None,), (None,))), (1, None), ("black", "white"), ((0,), ()))
        states = tuple(met_states(Table(), PAIR, (0, None), "whole", 0, 500))
        self.assertIs(is_bad(bad, Table(), "safe", "whole", (0, 1)), True)
        self.assertEqual(self.reason(Table(), PAIR, (0, None), states), "bad")
        self.assertEqual(self.reason(Table(), PAIR, (0, None), states[::-1]), "bad")
        self.assertEqual(self.reason(Table(), PAIR, (0, None), states[:-1]), "step")
        self.assertEqual(self.reason(Table(), PAIR, (0, None), states, goal="snapshot"), "bad")
        # A bad state to which no step of the others leads: its own steps lead out, and this is the first reason.
        right = closed(SAFE, PAIR, (0, None))
        self.assertEqual(self.reason(SAFE, PAIR, (0, None), right + (bad,)), "step")
        both = tuple(met_behind({state: () for state in (bad,) + right}, SAFE, "whole", 2, 2000))
        self.assertEqual(self.reason(SAFE, PAIR, (0, None), both), "bad")
        self.assertEqual(self.reason(SAFE, PAIR, (0, None), both[::-1]), "bad")

    def test_the_goal_decides(self):
        table = Table(("load", "grey"))
        states = closed(table, PAIR, (0,))
        self.assertIs(check_closed(table, PAIR, (0,), states), True)
        self.assertEqual(self.reason(table, PAIR, (0,), states, goal="snapshot"), "bad")
        table = Table(("old", "grey"), ("load", "grey"))
        states = closed(table, PAIR, (0,), goal="snapshot")
        for goal in ("safe", "snapshot"):
            self.assertIs(check_closed(table, PAIR, (0,), states, goal=goal), True)

    def test_extra(self):
        table = Table()
        sets = [closed(table, (1, ((None,),)), (0,), extra=extra) for extra in range(4)]
        for extra, states in enumerate(sets):
            for asked in range(4):
                if asked <= extra:
                    # States with still more objects may stand in it.
                    self.assertIs(check_closed(table, (1, ((None,),)), (0,), states, extra=asked), True)
                else:
                    self.assertEqual(self.reason(table, (1, ((None,),)), (0,), states, extra=asked), "step")
        self.assertIs(check_closed(table, (1, ((None,),)), (0,), sets[3]), True)

    def test_forty_objects(self):
        heap = (1, ((None,),) * 40)
        states = closed(Table(), heap, (0,), extra=3)
        self.assertIs(check_closed(Table(), heap, (0,), states, extra=3), True)
        self.assertEqual(self.reason(Table(), heap, (0,), states[:-1], extra=3), "step")

    def test_goals_that_are_none(self):
        for states in ((), None, closed(SAFE, PAIR, (0,))):
            check_goals_that_are_none(self, lambda goal: check_closed(SAFE, PAIR, (0,), states, goal=goal), "bounded")

    def test_chance(self):
        seen = set()
        for chance in chances(120, 57):
            scanning, goal = chance.choice(("whole", "fields")), chance.choice(("safe", "snapshot"))
            heap = some_heap(chance, most=2, width=chance.choice((1, 1, 2)))
            registers, table = some_registers(chance, heap, chance.choice((1, 1, 2))), some_table(chance)
            extra = chance.choice((0, 0, 1))
            states = list(met_states(table, heap, registers, scanning, extra, 300))
            if len(states) == 300:
                continue
            expected = None
            if any(is_bad(state, table, goal, scanning, reached(heap[1], registers)) for state in states):
                expected = "bad"
            if chance.random() < 0.3:
                gone = chance.randrange(len(states))
                del states[gone]
                expected = "step" if gone else "start"
            chance.shuffle(states)
            seen.add((expected, scanning, goal))
            words = {"goal": goal, "scanning": scanning, "extra": extra}
            if expected is None:
                self.assertIs(check_closed(table, heap, registers, tuple(states), **words), True)
            else:
                self.assertEqual(self.reason(table, heap, registers, tuple(states), **words), expected)
        self.assertGreaterEqual(len(seen), 12)
