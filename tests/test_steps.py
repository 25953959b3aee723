"""Points 7 and 25: steps by their form, and their ranks."""

import itertools
import unittest

from shadeguards.steps import is_step, step_rank
from tests.model import all_steps
from tests.values import ANY, frozen

BIG = 10 ** 29
NUMBERS = {"start": 0, "load": 3, "store": 3, "move": 2, "clear": 1, "new": 1, "scan": 1, "look": 0, "end": 0}
KINDS = ["start", "load", "store", "move", "clear", "new", "scan", "look", "end"]
NO_NUMBERS = [-1, -BIG, True, False, "0", "", "-", (0,), (), [0], [], {}, {0: 0}, 0.0]


def many(kind, scanning):
    return 2 if (kind, scanning) == ("scan", "fields") else NUMBERS[kind]


class IsStep(unittest.TestCase):
    def test_forms(self):
        for scanning in ("whole", "fields"):
            for kind in KINDS:
                for number in (0, 1, 5, 40, BIG):
                    for size in range(6):
                        thing = (kind,) + (number,) * size
                        expected = size == many(kind, scanning)
                        self.assertIs(is_step(thing, scanning=scanning), expected)
                        self.assertIs(is_step(thing=thing, scanning=scanning), expected)
                        self.assertIs(is_step(list(thing), scanning=scanning), False)
                        if scanning == "whole":
                            self.assertIs(is_step(thing), expected)

    def test_wrong_numbers(self):
        for scanning in ("whole", "fields"):
            for kind in KINDS:
                for at in range(many(kind, scanning)):
                    for wrong in NO_NUMBERS + [None]:
                        thing = [kind] + [0] * many(kind, scanning)
                        thing[at + 1] = wrong
                        expected = wrong is None and (kind, at) == ("store", 2)
                        before = frozen(thing)
                        self.assertIs(is_step(tuple(thing), scanning=scanning), expected, thing)
                        self.assertEqual(thing, before)

    def test_none_in_a_store_that_is_too_short_or_too_long(self):
        for thing in [("store", None), ("store", 0, None), ("store", 0, 0, None, None), ("store", 0, 0, None, 0),
                      ("store", 0, None, None), ("store", None, 0, None)]:
            self.assertIs(is_step(thing), False)

    def test_wrong_kinds(self):
        for kind in ["Start", "start ", "", "stop", None, True, 0, ("start",), ["start"], {}, "scans", "starts", b"start"]:
            for size in range(4):
                self.assertIs(is_step((kind,) + (0,) * size), False)

    def test_any_value(self):
        for scanning in ("whole", "fields"):
            for thing in ANY:
                before = frozen(thing)
                self.assertIs(is_step(thing, scanning=scanning), False, thing)
                self.assertEqual(thing, before)

    def test_what_does_not_exist_has_the_form(self):
        self.assertIs(is_step(("move", 3, 3)), True)
        self.assertIs(is_step(("load", 9, 9, 9)), True)
        self.assertIs(is_step(("scan", 41)), True)


class StepRank(unittest.TestCase):
    def test_ranks(self):
        for place, kind in enumerate(KINDS):
            for scanning in ("whole", "fields"):
                numbers = (7, 0, BIG)[:many(kind, scanning)]
                self.assertEqual(step_rank((kind,) + numbers), (place,) + numbers)
                self.assertEqual(step_rank(step=(kind,) + numbers), (place,) + numbers)
        self.assertEqual(step_rank(("store", 3, 2, None)), (2, 3, 2, -1))
        self.assertEqual(step_rank(("store", 0, 0, 0)), (2, 0, 0, 0))
        self.assertIs(type(step_rank(("end",))), tuple)

    def test_order(self):
        for scanning in ("whole", "fields"):
            steps = list(all_steps(scanning, 3, 2, 2))
            for first, second in itertools.pairwise(steps):
                self.assertLess(step_rank(first), step_rank(second))
