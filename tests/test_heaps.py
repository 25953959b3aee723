"""Points 3 and 22: heaps and registers."""

import unittest

from shadeguards.errors import InvalidHeap
from shadeguards.heaps import is_heap, is_registers, make_heap
from tests.values import ANY, chances, frozen, some_heap, some_registers

BIG = 10 ** 30

NO_HEAPS = [
    (1,), (1, (), ()), [1, ()], (1, []), (0, ()), (5, ()), (-1, ()), (True, ()), (True, ((None,),)), ("1", ()), (None, ()),
    (1, (None,)), (1, ([None],)), (1, ((),)), (1, ((None, None),)), (2, ((None,),)), (2, ((None, None), (None,))),
    (1, ((1,),)), (1, ((-1,),)), (1, ((False,),)), (1, ((None,), (True,))), (1, (("0",),)), (1, (((),),)), (1, (([],),)),
    (1, ((BIG,),)), (1, ({},)), (1, {}), (1, "ab"), (2, ((0, 2), (0, 1))), (1, None), ((), 1), (1, ((0.0,),)),
    (1, ((None,),) * 41), (4, ((None,) * 4,) * 41), (BIG, ()),
]

NO_OBJECTS = [
    None, True, 0, "", "a", {}, {0: 1}, (0, 1, 2, 3, 0), [None] * 5, (99,), (-1,), (True,), (False,), ("0",), ([0],),
    ((0,),), (None, BIG), ({},), tuple(range(4000)),
]


class IsHeap(unittest.TestCase):
    def test_all_widths_and_sizes(self):
        for width in (1, 2, 3, 4):
            for many in (0, 1, 2, 40):
                for held in (None, many - 1, 0) if many else (None,):
                    heap = (width, ((held,) * width,) * many)
                    self.assertIs(is_heap(heap), True)
                    self.assertIs(is_heap(thing=heap), True)
            self.assertIs(is_heap((width, ((None,) * width,) * 41)), False)

    def test_others(self):
        for thing in ANY + NO_HEAPS:
            before = frozen(thing)
            self.assertIs(is_heap(thing), False, thing)
            self.assertEqual(thing, before)

    def test_one_wrong_place(self):
        for chance in chances(100):
            width, objects = some_heap(chance)
            self.assertIs(is_heap((width, objects)), True)
            if objects:
                x, f = chance.randrange(len(objects)), chance.randrange(width)
                for wrong in (len(objects), -1, True, False, "0", (), [0], [], {}):
                    fields = objects[x][:f] + (wrong,) + objects[x][f + 1:]
                    self.assertIs(is_heap((width, objects[:x] + (fields,) + objects[x + 1:])), False)


class IsRegisters(unittest.TestCase):
    def test_numbers_of_registers(self):
        heap = (1, ((None,), (None,)))
        for many in range(1, 7):
            self.assertIs(is_registers(heap, (None,) * many), True)
            self.assertIs(is_registers(heap, (1,) * many), True)
            self.assertIs(is_registers(thing=(0,) * many, heap=heap), True)
        self.assertIs(is_registers(heap, ()), False)
        self.assertIs(is_registers(heap, (None,) * 7), False)
        self.assertIs(is_registers(heap, (0,) * 41), False)

    def test_what_they_hold(self):
        for many in (0, 1, 2, 40):
            heap = (1, ((None,),) * many)
            for x in range(many):
                self.assertIs(is_registers(heap, (None, x)), True)
            for wrong in (many, -1, True, False, "0", (), [0], [], {}, BIG):
                self.assertIs(is_registers(heap, (wrong,)), False)
                self.assertIs(is_registers(heap, (None, None, None, None, None, wrong)), False)
        self.assertIs(is_registers((1, ()), (None,)), True)

    def test_others(self):
        heap = (1, ((None,), (None,)))
        right = [(0,), (None,)]
        for thing in [thing for thing in ANY if thing not in right or thing == (True,)] + [[0], [None], {0: 0}, "0"]:
            if type(thing) is tuple and thing and all(one is None or type(one) is int and one in (0, 1) for one in thing):
                continue
            before = frozen(thing)
            self.assertIs(is_registers(heap, thing), False, thing)
            self.assertEqual(thing, before)


class MakeHeap(unittest.TestCase):
    def test_width_of_the_longest(self):
        self.assertEqual(make_heap(), (1, ()))
        self.assertEqual(make_heap(()), (1, ((None,),)))
        self.assertEqual(make_heap((), []), (1, ((None,), (None,))))
        self.assertEqual(make_heap([1], (None, None, 0)), (3, ((1, None, None), (None, None, 0))))
        self.assertEqual(make_heap((0, 0, 0, 0)), (4, ((0, 0, 0, 0),)))

    def test_width_given(self):
        for width in (1, 2, 3, 4):
            self.assertEqual(make_heap(width=width), (width, ()))
            self.assertEqual(make_heap((0,), [], width=width), (width, ((0,) + (None,) * (width - 1), (None,) * width)))
            self.assertEqual(make_heap([0] * width, width=width), (width, ((0,) * width,)))
            with self.assertRaises(InvalidHeap):
                make_heap([0] * (width + 1), width=width)

    def test_refused_widths(self):
        for width in [0, 5, -1, True, False, "1", (), [1], {}, (1,), BIG, "x"]:
            before = frozen(width)
            for objects in [(), ((0,),), ((), ())]:
                with self.assertRaises(InvalidHeap):
                    make_heap(*objects, width=width)
            self.assertEqual(width, before)

    def test_refused_objects(self):
        for thing in NO_OBJECTS:
            before = frozen(thing)
            for objects in [(thing,), ((None,), thing), (thing, [0])]:
                for width in (None, 1, 4):
                    with self.assertRaises(InvalidHeap):
                        make_heap(*objects, width=width)
            self.assertEqual(thing, before)

    def test_number_of_objects(self):
        for width in (1, 2, 3, 4):
            self.assertEqual(make_heap(*[[39]] * 40, width=width), (width, ((39,) + (None,) * (width - 1),) * 40))
            with self.assertRaises(InvalidHeap):
                make_heap(*[[]] * 41, width=width)
        with self.assertRaises(InvalidHeap):
            make_heap(*[[]] * 41)

    def test_heaps_there_and_back(self):
        for chance in chances(100, 1):
            width, objects = some_heap(chance)
            self.assertEqual(make_heap(*objects, width=width), (width, objects))
            self.assertEqual(make_heap(*[list(fields) for fields in objects], width=width), (width, objects))
            shorter = [list(fields) for fields in objects]
            for fields in shorter:
                while fields and fields[-1] is None:
                    fields.pop()
            self.assertEqual(make_heap(*shorter, width=width), (width, objects))
            self.assertIs(is_heap(make_heap(*shorter)), True)

    def test_arguments_stay_and_the_heap_is_its_own(self):
        objects = [[1, None], [], (0,)]
        heap = make_heap(*objects)
        self.assertEqual(objects, [[1, None], [], (0,)])
        objects[0][0] = 2
        objects[1].append(1)
        self.assertEqual(heap, (2, ((1, None), (None, None), (0, None))))
        self.assertEqual([type(heap), type(heap[1]), {type(fields) for fields in heap[1]}], [tuple, tuple, {tuple}])


class SomeHeaps(unittest.TestCase):
    def test_what_the_tests_make_is_right(self):
        for chance in chances(50, 2):
            heap = some_heap(chance)
            self.assertIs(is_heap(heap), True)
            self.assertIs(is_registers(heap, some_registers(chance, heap)), True)
