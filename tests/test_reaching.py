"""Points 3, 20 and 23: what is reachable, and paths."""

import itertools
import unittest

from shadeguards.errors import NoObject
from shadeguards.reaching import path_to, reach_from, reachable, unreachable
from tests.values import ANY, chances, frozen, some_heap, some_registers


def closure(heap, objects):
    """All that is reachable, by fields of every object again and again."""
    reached = set(objects)
    for _ in heap[1]:
        reached |= {held for x in reached for held in heap[1][x] if held is not None}
    return tuple(sorted(reached))


def walk(heap, registers, path):
    """The object to which a path leads."""
    x = registers[path[0]]
    for f in path[1:]:
        x = heap[1][x][f]
    return x


def shortest(heap, registers, x, most):
    """The length of a shortest path, found by trying all of them, or None."""
    for length in range(1, most + 1):
        for path in itertools.product(range(len(registers)), *[range(heap[0])] * (length - 1)):
            try:
                if walk(heap, registers, path) == x:
                    return length
            except TypeError:
                pass
    return None


RING = (1, tuple(((x + 1) % 40,) for x in range(40)))
CHAIN = (2, tuple((None, x + 1 if x < 39 else None) for x in range(40)))


class Reachable(unittest.TestCase):
    def test_rings_and_chains(self):
        for x in (0, 1, 39):
            self.assertEqual(reachable(RING, (None, x)), tuple(range(40)))
            self.assertEqual(reachable(CHAIN, (x,)), tuple(range(x, 40)))
            self.assertEqual(unreachable(CHAIN, (None, x)), tuple(range(x)))
            self.assertEqual(reach_from(CHAIN, x), tuple(range(x, 40)))

    def test_nothing(self):
        self.assertEqual(reachable((1, ()), (None,)), ())
        self.assertEqual(unreachable((4, ()), (None,) * 6), ())
        self.assertEqual(reachable(RING, (None,)), ())
        self.assertEqual(unreachable(RING, (None,) * 6), tuple(range(40)))
        self.assertEqual(reach_from(RING), ())

    def test_own_holders(self):
        heap = (2, ((0, None), (1, 1), (None, None), (2, 3)))
        self.assertEqual(reachable(heap, (1, 0)), (0, 1))
        self.assertEqual(unreachable(heap, (1, 0)), (2, 3))
        self.assertEqual(reachable(heap, (3,)), (2, 3))
        self.assertEqual(reach_from(heap, 3, 0, 3), (0, 2, 3))

    def test_chance(self):
        for chance in chances(300):
            heap = some_heap(chance, most=9)
            registers = some_registers(chance, heap)
            before = frozen((heap, registers))
            held = [x for x in registers if x is not None]
            expected = closure(heap, held)
            self.assertEqual(reachable(heap, registers), expected)
            self.assertEqual(reachable(registers=registers, heap=heap), expected)
            self.assertEqual(reach_from(heap, *held), expected)
            self.assertEqual(reach_from(heap, *held[::-1], *held), expected)
            rest = tuple(x for x in range(len(heap[1])) if x not in expected)
            self.assertEqual(unreachable(heap, registers), rest)
            self.assertEqual(unreachable(registers=registers, heap=heap), rest)
            self.assertEqual((heap, registers), before)
            self.assertEqual({type(reachable(heap, registers)), type(unreachable(heap, registers))}, {tuple})


class PathTo(unittest.TestCase):
    def test_registers_first(self):
        self.assertEqual(path_to((1, ((None,), (0,))), (None, 0), 0), (1,))
        self.assertEqual(path_to((1, ((None,), (0,))), (1, 0), 0), (1,))
        self.assertEqual(path_to((1, ((0,),)), (0,), 0), (0,))

    def test_long_ones(self):
        self.assertEqual(path_to(CHAIN, (None, 0), 39), (1,) + 39 * (1,))
        self.assertEqual(path_to(RING, (5,), 4), (0,) + 39 * (0,))
        self.assertEqual(path_to(RING, (5, 3), 4), (1, 0))

    def test_as_short_as_can_be(self):
        for chance in chances(200, 1):
            heap = some_heap(chance, most=5, width=chance.randint(1, 2))
            registers = some_registers(chance, heap, chance.randint(1, 3))
            for x in range(len(heap[1])):
                path = path_to(heap, registers, x)
                least = shortest(heap, registers, x, 5)
                if least is None:
                    self.assertIsNone(path)
                else:
                    self.assertEqual((type(path), len(path), walk(heap, registers, path)), (tuple, least, x))
                    self.assertEqual(path_to(x=x, registers=registers, heap=heap), path)

    def test_none(self):
        self.assertIsNone(path_to(CHAIN, (1,), 0))
        self.assertIsNone(path_to(RING, (None,), 7))
        self.assertIsNone(path_to((1, ((0,),)), (None,), 0))

    def test_no_object(self):
        for heap in [(1, ()), (1, ((None,),)), (2, ((0, 1), (None, None)))]:
            many = len(heap[1])
            for thing in ANY + [many, many + 1, "0", (0,), [0]]:
                if type(thing) is int and 0 <= thing < many:
                    continue
                before = frozen(thing)
                with self.assertRaises(NoObject) as caught:
                    path_to(heap, (None,), thing)
                self.assertIs(caught.exception.index, thing)
                self.assertEqual(thing, before)
