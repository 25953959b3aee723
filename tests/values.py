"""Values for tests: any values, tables, heaps, and a check that arguments stay as they are."""

import copy
import itertools
import random

from shadeguards.cycles import Cycle
from shadeguards.entries import COLORS, ENTRIES
from shadeguards.errors import InvalidCertificate, InvalidGoal
from shadeguards.fieldcycles import FieldCycle
from shadeguards.tables import Table
from tests.model import all_steps

CLASSES = {"whole": Cycle, "fields": FieldCycle}


def deep(make, depth):
    """A value that is nested this deep."""
    value = make([])
    for _ in range(depth - 1):
        value = make([value])
    return value


ANY = [
    None, True, False, 0, 1, -1, 2, 7, 40, 10 ** 59, -(10 ** 59),
    "", " ", "-", "0", "1", "white", "grey", "once", "load", "old-grey", "x" * 4000, "a\nb", "\n",
    (), (0,), (True,), (None,), ("load",), ("load", "grey", "x"), (("load", "grey"),), ((), ()),
    [], [0], ["old", "grey"], [("old", "grey")], ["start"], [None],
    {}, {"load": "grey"}, {0: 1}, {"a": [1, (2, {"b": None})]},
    deep(tuple, 10), deep(list, 10), (deep(list, 9),), tuple(range(4000)), [[]] * 4000,
]


def without(values, *gone):
    """The values that are none of these, kinds compared as well as values."""
    return [value for value in values if not any(type(value) is type(one) and value == one for one in gone)]


def frozen(value):
    """A copy that a later change of the value does not reach."""
    return copy.deepcopy(value)


def all_tables():
    """All 24,576 tables."""
    for size in range(13):
        for entries in itertools.combinations(ENTRIES, size):
            for fresh in Table.FRESH:
                for roots in Table.ROOTS:
                    yield Table(*entries, fresh=fresh, roots=roots)


def some_table(chance, **words):
    """A table of chance; `words` may tell its fresh and its roots."""
    entries = [entry for entry in ENTRIES if chance.random() < 0.5]
    fresh = words.get("fresh", chance.choice(Table.FRESH))
    roots = words.get("roots", chance.choice(Table.ROOTS))
    return Table(*entries, fresh=fresh, roots=roots)


def some_heap(chance, most=6, width=None):
    """A heap of chance."""
    many = chance.randint(0, most)
    width = width or chance.randint(1, 4)
    held = [None, *range(many)]
    return (width, tuple(tuple(chance.choice(held) for _ in range(width)) for _ in range(many)))


def some_registers(chance, heap, many=None):
    """Registers of chance for this heap."""
    held = [None, *range(len(heap[1]))]
    return tuple(chance.choice(held) for _ in range(many or chance.randint(1, 6)))


def some_state(chance, scanning, most=5, width=None):
    """A state of chance."""
    heap = some_heap(chance, most, width)
    colors = tuple(chance.choice(COLORS) for _ in heap[1])
    visited = []
    for color in colors:
        if color == "black":
            visited.append(tuple(range(heap[0])))
        elif color == "grey" and scanning == "fields":
            visited.append(tuple(sorted(chance.sample(range(heap[0]), chance.randrange(heap[0])))))
        else:
            visited.append(())
    return heap, some_registers(chance, heap, chance.randint(1, 3)), colors, tuple(visited)


def wander(chance, cycle, many):
    """Let the cycle perform up to so many steps of chance; tell each of them and what `step` returned for it."""
    for _ in range(many):
        possible = list(cycle.moves())
        if not possible:
            return
        kind = chance.choice(sorted({step[0] for step in possible} - {"end"}) or ["end"])
        if chance.random() < 0.1 and ("end",) in possible:
            kind = "end"
        step = chance.choice([step for step in possible if step[0] == kind])
        yield step, cycle.step(step)


def nearby(cycle):
    """All steps that name what exists, or one more."""
    return all_steps(cycle.SCANNING, len(cycle.registers) + 1, cycle.heap[0] + 1, len(cycle) + 1)


def chances(many, seed=0):
    """Generators of chance that are the same in every run."""
    return [random.Random(1000 * seed + index) for index in range(many)]


SETTINGS = [(1, "whole"), (1, "fields"), (2, "whole"), (2, "fields")]


def subsets(things):
    """All subsets, as tuples."""
    for size in range(len(things) + 1):
        yield from itertools.combinations(things, size)


def unlike_tables(*named):
    """Tables of unlike kinds: with each choice of these entries, each fresh and roots, and all or none of the others."""
    others = [entry for entry in ENTRIES if entry not in named]
    for chosen in subsets(named):
        for rest in ([], others):
            for fresh in Table.FRESH:
                for roots in Table.ROOTS:
                    yield Table(*chosen, *rest, fresh=fresh, roots=roots)


def table_with(entries, fresh="black", roots="once"):
    """A table of a list of entries."""
    return Table(*entries, fresh=fresh, roots=roots)


def reason_of(case, deed, *args, **words):
    """The reason for which the deed raises InvalidCertificate; the arguments must stay as they are."""
    before = frozen((args, words))
    with case.assertRaises(InvalidCertificate) as caught:
        deed(*args, **words)
    case.assertEqual((args, words), before)
    return caught.exception.reason


GOALS = ("safe", "snapshot", "bounded")
NO_GOALS = ["Safe", "safe ", "", "strong", "single", ("safe",), ["safe"], {"safe": True}, None, True, 0, "safe\n"] + ANY


def check_goals_that_are_none(case, deed, *more):
    """The deed, called with a goal, must raise InvalidGoal for each value that is none."""
    for goal in [*more, *NO_GOALS]:
        before = frozen(goal)
        with case.assertRaises(InvalidGoal) as caught:
            deed(goal)
        case.assertIs(caught.exception.value, goal)
        case.assertEqual(goal, before)
