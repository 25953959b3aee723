"""Points 77 and 80: thread steps and states of threads by their form, and ranks."""

import itertools
import unittest

from shadeguards.threadsteps import is_thread_state, is_thread_step, thread_step_rank
from tests.test_steps import NO_NUMBERS
from tests.threadmodel import all_thread_steps, some_thread_state
from tests.values import ANY, chances, frozen

BIG = 10 ** 29
KINDS = ["start", "load", "store", "move", "clear", "new", "scan", "look", "end"]
NUMBERS = {"start": 0, "load": 4, "store": 4, "move": 3, "clear": 2, "new": 2, "scan": 1, "look": 1, "end": 0}
HEAP = (2, ((1, None), (None, 2), (2, 2)))
RIGHT = (HEAP, ((0, None), (2,)), ("black", "grey", "white"), ((0, 1), (), ()), (True, False))


def many(kind, scanning):
    return 2 if (kind, scanning) == ("scan", "fields") else NUMBERS[kind]


class IsThreadStep(unittest.TestCase):
    def test_forms(self):
        for scanning, kind, number, size in itertools.product(("whole", "fields"), KINDS, (0, 1, 5, 40, BIG), range(7)):
            thing = (kind,) + (number,) * size
            expected = size == many(kind, scanning)
            self.assertIs(is_thread_step(thing, scanning=scanning), expected)
            self.assertIs(is_thread_step(thing=thing, scanning=scanning), expected)
            self.assertIs(is_thread_step(list(thing), scanning=scanning), False)
            if scanning == "whole":
                self.assertIs(is_thread_step(thing), expected)

    def test_one_number_otherwise(self):
        for scanning, kind in itertools.product(("whole", "fields"), KINDS):
            for at in range(many(kind, scanning)):
                for wrong in NO_NUMBERS + [None]:
                    thing = [kind] + [0] * many(kind, scanning)
                    thing[at + 1] = wrong
                    expected = wrong is None and (kind, at) == ("store", 3)
                    before = frozen(thing)
                    self.assertIs(is_thread_step(tuple(thing), scanning=scanning), expected, thing)
                    self.assertEqual(thing, before)

    def test_none_in_a_store_that_is_too_short_or_too_long(self):
        for thing in [("store", None), ("store", 0, 0, None), ("store", 0, 0, 0, None, None), ("store", 0, 0, 0, None, 0),
                      ("store", 0, 0, None, None), ("store", None, 0, 0, None)]:
            self.assertIs(is_thread_step(thing), False)
        self.assertIs(is_thread_step(("store", 0, 0, 0, None)), True)

    def test_wrong_kinds(self):
        for kind in ["Start", "start ", "", "stop", None, True, 0, ("start",), ["start"], {}, "looks", b"start"]:
            for size in range(5):
                self.assertIs(is_thread_step((kind,) + (0,) * size), False)

    def test_steps_without_threads(self):
        for thing in [("load", 0, 0, 0), ("store", 0, 0, None), ("move", 0, 1), ("clear", 0), ("new", 0), ("look",)]:
            self.assertIs(is_thread_step(thing), False)

    def test_any_value(self):
        for scanning in ("whole", "fields"):
            for thing in ANY:
                before = frozen(thing)
                self.assertIs(is_thread_step(thing, scanning=scanning), False, thing)
                self.assertEqual(thing, before)

    def test_what_does_not_exist_has_the_form(self):
        for thing in [("move", 9, 3, 3), ("load", 9, 9, 9, 9), ("scan", 41), ("look", 4)]:
            self.assertIs(is_thread_step(thing), True)


class Rank(unittest.TestCase):
    def test_ranks(self):
        for place, kind in enumerate(KINDS):
            for scanning in ("whole", "fields"):
                numbers = (7, 0, BIG, 2)[:many(kind, scanning)]
                self.assertEqual(thread_step_rank((kind,) + numbers), (place,) + numbers)
                self.assertEqual(thread_step_rank(step=(kind,) + numbers), (place,) + numbers)
        self.assertEqual(thread_step_rank(("store", 3, 2, 1, None)), (2, 3, 2, 1, -1))
        self.assertIs(type(thread_step_rank(("end",))), tuple)

    def test_order(self):
        for scanning in ("whole", "fields"):
            steps = list(all_thread_steps(scanning, 2, 2, 2, 2))
            for first, second in itertools.pairwise(steps):
                self.assertLess(thread_step_rank(first), thread_step_rank(second))


def changed(**parts):
    """The right state with other parts."""
    names = ("heap", "threads", "colors", "visited", "looked")
    return tuple(parts.get(name, part) for name, part in zip(names, RIGHT))


WRONG = [
    (), RIGHT[:4], RIGHT + ((),), list(RIGHT), (RIGHT,), RIGHT[:1] + RIGHT[2:],
    changed(heap=[2, HEAP[1]]), changed(heap=(2, HEAP[1], ())), changed(heap=(5, HEAP[1])), changed(heap=None),
    changed(heap=(2, ((1, None), (None, 3), (2, 2)))), changed(heap=(2, ((True, None), (None, 2), (2, 2)))),
    changed(heap=(2, list(HEAP[1]))), changed(heap=(1, HEAP[1])),
    changed(threads=()), changed(threads=((0,),), looked=(True,)), changed(threads=((0,),) * 5, looked=(True,) * 5),
    changed(threads=[(0, None), (2,)]), changed(threads=((0, None), [2])), changed(threads=((0, None), ())),
    changed(threads=((0, None), (0, 1, 2, 0))), changed(threads=((0, None), (3,))), changed(threads=((0, None), (-1,))),
    changed(threads=((0, None), (True,))), changed(threads=((False, None), (2,))), changed(threads=((0, None), ("2",))),
    changed(threads=((0, None), 2)), changed(threads=((0, None), None)), changed(threads=None), changed(threads=(0, 2)),
    changed(threads=((0, ()), (2,))), changed(threads={0: (0,), 1: (2,)}), changed(threads="ab"),
    changed(colors=("black", "grey")), changed(colors=("black", "grey", "white", "white")), changed(colors=["black", "grey", "white"]),
    changed(colors=("black", "grey", "red")), changed(colors=("black", "grey", None)), changed(colors=("black", "white", "white", "x")),
    changed(visited=((0, 1), ())), changed(visited=((0, 1), (), (), ())), changed(visited=[(0, 1), (), ()]),
    changed(visited=((0, 1), [], ())), changed(visited=((0,), (), ())), changed(visited=((1, 0), (), ())),
    changed(visited=((0, True), (), ())), changed(visited=((0, 1), (), (0,))), changed(visited=((0, 1), (0, 1), ())),
    changed(visited=((0, 1), (2,), ())), changed(visited=((0, 1), (False,), ())), changed(visited=None), changed(visited=((0, 1, 2), (), ())),
    changed(looked=()), changed(looked=(True,)), changed(looked=(True, False, False)), changed(looked=[True, False]),
    changed(looked=(1, 0)), changed(looked=(True, 0)), changed(looked=(True, None)), changed(looked=(True, "False")),
    changed(looked=None), changed(looked=True), changed(looked={0: True, 1: False}), changed(looked=((True,), (False,))),
]


class IsThreadState(unittest.TestCase):
    def test_right_ones(self):
        for scanning in ("whole", "fields"):
            self.assertIs(is_thread_state(RIGHT, scanning=scanning), True)
            self.assertIs(is_thread_state(scanning=scanning, thing=RIGHT), True)
            self.assertIs(is_thread_state(((1, ()), ((None,), (None,)), (), (), (False, True)), scanning=scanning), True)
        self.assertIs(is_thread_state(RIGHT), True)

    def test_numbers_of_threads_and_registers(self):
        for many_threads in range(6):
            for slots in range(5):
                state = changed(threads=((0,) * slots,) * many_threads, looked=(False,) * many_threads)
                self.assertIs(is_thread_state(state), 2 <= many_threads <= 4 and 1 <= slots <= 3)
                state = changed(threads=((0,),) * (many_threads - 1) + ((0,) * slots,), looked=(False,) * many_threads)
                self.assertIs(is_thread_state(state), 2 <= many_threads <= 4 and 1 <= slots <= 3)

    def test_visited_fields_of_grey_objects(self):
        for fields in ((0,), (1,)):
            state = changed(visited=((0, 1), fields, ()))
            self.assertIs(is_thread_state(state, scanning="fields"), True)
            self.assertIs(is_thread_state(state, scanning="whole"), False)
            self.assertIs(is_thread_state(state), False)

    def test_one_part_otherwise(self):
        for scanning in ("whole", "fields"):
            for thing in WRONG + ANY:
                before = frozen(thing)
                self.assertIs(is_thread_state(thing, scanning=scanning), False, thing)
                self.assertEqual(thing, before)

    def test_forty_objects(self):
        for objects, expected in ((40, True), (41, False)):
            state = ((1, ((None,),) * objects), ((None,), (0,)), ("black",) * objects, ((0,),) * objects, (True, True))
            self.assertIs(is_thread_state(state), expected)

    def test_chance(self):
        for chance in chances(200, 140):
            scanning = chance.choice(("whole", "fields"))
            self.assertIs(is_thread_state(some_thread_state(chance, scanning), scanning=scanning), True)
