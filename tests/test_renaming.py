"""Points 21 and 24: orders and renaming."""

import itertools
import unittest

from shadeguards.renaming import inverse, is_order, renamed_heap, renamed_registers, renamed_step
from tests.values import ANY, chances, frozen, some_heap, some_registers

STEPS = [
    ("start",), ("load", 0, 1, 2), ("load", 3, 3, 0), ("store", 0, 1, None), ("store", 2, 1, 0), ("move", 0, 1),
    ("move", 2, 2), ("clear", 1), ("new", 0), ("look",), ("end",),
]


def heap_of(many):
    return (1, ((None,),) * many)


class IsOrder(unittest.TestCase):
    def test_all_of_three(self):
        right = set(itertools.permutations(range(3)))
        for length in range(5):
            for thing in itertools.product(range(-1, 4), repeat=length):
                self.assertIs(is_order(heap_of(3), thing), thing in right)
                self.assertIs(is_order(thing=thing, heap=heap_of(3)), thing in right)
                self.assertIs(is_order(heap_of(3), list(thing)), False)

    def test_none_one_and_forty(self):
        self.assertIs(is_order(heap_of(0), ()), True)
        self.assertIs(is_order(heap_of(0), (0,)), False)
        self.assertIs(is_order(heap_of(1), (0,)), True)
        self.assertIs(is_order(heap_of(1), ()), False)
        self.assertIs(is_order(heap_of(40), tuple(range(40))[::-1]), True)
        self.assertIs(is_order(heap_of(40), tuple(range(39)) + (38,)), False)

    def test_kinds(self):
        for thing in [(False,), (None,), ("0",), ((0,),), ([0],), [0], {0: 0}, "0", ({},)]:
            self.assertIs(is_order(heap_of(1), thing), False)
        for thing in [(0, True), (True, 0), (True, False), (0, 1.0), (0, "1"), (0, []), (0, {}), (0, ())]:
            self.assertIs(is_order(heap_of(2), thing), False)

    def test_any_value(self):
        for thing in ANY:
            before = frozen(thing)
            self.assertIs(is_order(heap_of(5), thing), False, thing)
            self.assertEqual(thing, before)


class Renamed(unittest.TestCase):
    def test_heaps_and_registers(self):
        for chance in chances(200):
            heap = some_heap(chance, most=7)
            registers = some_registers(chance, heap)
            width, objects = heap
            order = list(range(len(objects)))
            chance.shuffle(order)
            order = tuple(order)
            before = frozen((heap, registers, order))

            def renamed(x):
                return None if x is None else order[x]

            new = renamed_heap(heap, order)
            self.assertEqual((new[0], len(new[1])), (width, len(objects)))
            for x, fields in enumerate(objects):
                self.assertEqual(new[1][order[x]], tuple(renamed(held) for held in fields))
            told = renamed_registers(registers, order)
            self.assertEqual(told, tuple(renamed(held) for held in registers))
            self.assertEqual((renamed_heap(order=order, heap=heap), renamed_registers(order=order, registers=registers)),
                             (new, told))
            back = inverse(order)
            self.assertTrue(is_order(heap, back))
            self.assertEqual((renamed_heap(new, back), renamed_registers(told, back)), (heap, registers))
            self.assertEqual((heap, registers, order), before)
            self.assertEqual({type(new), type(new[1]), type(told), type(back)}, {tuple})

    def test_inverse(self):
        self.assertEqual(inverse(()), ())
        self.assertEqual(inverse((0,)), (0,))
        for order in itertools.permutations(range(4)):
            back = inverse(order=order)
            self.assertEqual([back[order[x]] for x in range(4)], [0, 1, 2, 3])
            self.assertEqual(inverse(back), order)

    def test_steps_that_name_no_object(self):
        for step in STEPS:
            self.assertEqual(renamed_step(step, (3, 2, 1, 0)), step)
            self.assertEqual(renamed_step(order=(), step=step), step)

    def test_scans(self):
        for order in itertools.permutations(range(3)):
            for x in range(3):
                self.assertEqual(renamed_step(("scan", x), order), ("scan", order[x]))
                self.assertEqual(renamed_step(step=("scan", x), order=order), ("scan", order[x]))
                self.assertEqual(renamed_step(("scan", x, 2), order), ("scan", order[x], 2))
                self.assertEqual(renamed_step(renamed_step(("scan", x, 0), order), inverse(order)), ("scan", x, 0))
                self.assertIs(type(renamed_step(("scan", x, 0), order)), tuple)

    def test_scans_of_objects_that_do_not_exist(self):
        self.assertEqual(renamed_step(("scan", 3), (2, 0, 1)), ("scan", 3))
        self.assertEqual(renamed_step(("scan", 10 ** 29, 1), (2, 0, 1)), ("scan", 10 ** 29, 1))
        self.assertEqual(renamed_step(("scan", 0), ()), ("scan", 0))
