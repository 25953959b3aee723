"""Points 8, 9 and 28: the reasons for which steps are refused, and the possible steps."""

import unittest

from shadeguards.cycles import Cycle
from shadeguards.errors import InvalidStep
from shadeguards.fieldcycles import FieldCycle
from shadeguards.scheduling import schedule
from shadeguards.steps import is_step, step_rank
from shadeguards.tables import Table
from tests.model import Model, all_steps
from tests.values import ANY, CLASSES, chances, frozen, nearby, some_heap, some_registers, some_state, some_table, wander

BIG = 10 ** 29
MALFORMED = [
    "start", ["start"], ("start", 0), ("start", None), ("begin",), ("load", 0, 0), ("load", 0, 0, 0, 0), ("load", 0, 0, None),
    ("load", True, 0, 0), ("load", 0, False, 0), ["load", 0, 0, 0], ("load", (0, 0, 0)), ("load", 0, 0, -1), ("store", 0, 0),
    ("store", 0, 0, False), ("store", None, 0, 0), ("store", 0, None, None), ("store", 0, 0, 0, 0), ("store", 0, 0, "-"),
    ("move", 0), ("move", 0, None), ("move", 0, 1, 2), ("move", -1, 0), ("clear",), ("clear", None), ("clear", "0"),
    ("new",), ("new", None), ("new", True), ("new", 0, 0), ("scan",), ("scan", None), ("scan", -1), ("scan", 0, 0, 0),
    ("scan", (0,)), ("look", 0), ("look", None), ("end", 0), ("end", "end"), (), None, True, 0, {}, ("load", 0, 0, 0.0),
]

# A heap of three objects with two fields; registers hold object 0, nothing, and object 2.
HEAP = (2, ((1, None), (None, None), (0, 2)))
COLORED = ("grey", "white", "black")
FULL = (1, ((None,),) * 40)


def marking(made=Cycle, heap=HEAP, registers=(0, None, 2), colors=COLORED, half=(), **words):
    """A cycle in the phase "marking"; the first object has the visited fields `half`."""
    visited = [tuple(range(heap[0])) if color == "black" else () for color in colors]
    visited[0] = half or visited[0]
    return made.at((heap, registers, colors, tuple(visited)), Table(**words))


class Alone(unittest.TestCase):
    def test_form(self):
        for made in CLASSES.values():
            for phase in (marking(made), made(HEAP, 0, None)):
                for thing in ANY + MALFORMED:
                    before = frozen(thing)
                    self.assertEqual(phase.why(thing), "form", thing)
                    self.assertEqual(thing, before)
        self.assertEqual(marking(Cycle).why(("scan", 0, 0)), "form")
        self.assertEqual(marking(FieldCycle).why(("scan", 0)), "form")
        self.assertEqual(marking(FieldCycle).why(("scan", 0, True)), "form")
        self.assertEqual(marking(FieldCycle).why(("scan", 0, None)), "form")

    def test_phase(self):
        for made in CLASSES.values():
            ready, going = made(HEAP, 0, None), marking(made)
            ended = marking(made, colors=("black",) * 3)
            ended.step(("end",))
            self.assertIsNone(ready.why(("start",)))
            self.assertEqual(going.why(("start",)), "phase")
            self.assertEqual(ended.why(("start",)), "phase")
            for step in all_steps(made.SCANNING, 3, 2, 3):
                if step != ("start",):
                    self.assertEqual(ready.why(step), "phase")
                self.assertEqual(ended.why(step), "phase")

    def test_register(self):
        for made in CLASSES.values():
            cycle = marking(made)
            for far in (3, 4, 40, BIG):
                for step in [("load", far, 0, 0), ("load", 0, far, 0), ("store", far, 0, 0), ("store", far, 0, None),
                             ("store", 0, 0, far), ("move", far, 0), ("move", 0, far), ("clear", far), ("new", far)]:
                    self.assertEqual(cycle.why(step), "register")
            for step in [("load", 2, 0, 0), ("load", 0, 2, 0), ("store", 2, 0, 2), ("move", 2, 0), ("clear", 2), ("new", 2)]:
                self.assertIsNone(cycle.why(step))

    def test_same(self):
        cycle = marking()
        self.assertEqual([cycle.why(("move", r, r)) for r in (0, 2)], ["same", "same"])
        self.assertIsNone(cycle.why(("load", 0, 0, 0)))
        self.assertIsNone(cycle.why(("store", 0, 0, 0)))

    def test_empty(self):
        cycle = marking()
        for step in [("load", 0, 1, 0), ("store", 1, 0, 0), ("store", 1, 0, None), ("store", 0, 0, 1), ("move", 0, 1),
                     ("clear", 1)]:
            self.assertEqual(cycle.why(step), "empty")
        for step in [("load", 1, 0, 0), ("store", 0, 0, None), ("move", 1, 0), ("new", 1), ("load", 0, 0, 1)]:
            self.assertIsNone(cycle.why(step))

    def test_object(self):
        for far in (3, 4, 40, BIG):
            self.assertEqual(marking().why(("scan", far)), "object")
            self.assertEqual(marking(FieldCycle).why(("scan", far, 0)), "object")

    def test_field(self):
        for far in (2, 3, 4, BIG):
            for step in [("load", 0, 0, far), ("store", 0, far, 0), ("store", 0, far, None)]:
                self.assertEqual(marking().why(step), "field")
                self.assertEqual(marking(FieldCycle).why(step), "field")
            self.assertEqual(marking(FieldCycle).why(("scan", 0, far)), "field")

    def test_color(self):
        self.assertEqual([marking().why(("scan", x)) for x in range(3)], [None, "color", "color"])
        self.assertEqual([marking(FieldCycle).why(("scan", x, 1)) for x in range(2)], [None, "color"])

    def test_visited(self):
        cycle = marking(FieldCycle, half=(1,))
        self.assertEqual([cycle.why(("scan", 0, f)) for f in (0, 1)], [None, "visited"])

    def test_full(self):
        for many, reason in ((39, None), (40, "full")):
            heap = (1, ((None,),) * many)
            cycle = marking(heap=heap, registers=(None,), colors=("black",) * many)
            self.assertEqual(cycle.why(("new", 0)), reason)

    def test_look(self):
        self.assertEqual(marking(roots="once").why(("look",)), "look")
        self.assertIsNone(marking(roots="again").why(("look",)))

    def test_grey_and_white_ends(self):
        for roots in ("once", "again"):
            self.assertEqual(marking(roots=roots).why(("end",)), "grey")
            self.assertIsNone(marking(colors=("black", "white", "black"), roots=roots).why(("end",)))
        self.assertEqual(marking(colors=("black", "black", "white"), roots="again").why(("end",)), "white")
        self.assertIsNone(marking(colors=("black", "black", "white"), roots="once").why(("end",)))


class Together(unittest.TestCase):
    """Two reasons that apply: the first one is told."""

    def test_form_and_others(self):
        for cycle in (Cycle(HEAP, 0, None), marking()):
            for step in [("load", 9, 9, True), ("move", 9, 9, 9), ("scan", 9, 9), ("end", 1), ["start"], ("look", 9)]:
                self.assertEqual(cycle.why(step), "form")

    def test_phase_and_others(self):
        steps = [("load", 9, 0, 0), ("move", 0, 0), ("load", 0, 1, 0), ("load", 0, 0, 9), ("scan", 9), ("scan", 0), ("look",),
                 ("end",), ("clear", 1), ("store", 9, 9, 9)]
        ready = Cycle(HEAP, 0, None, table=Table(roots="once"))
        ended = marking(colors=("black",) * 3)
        ended.step(("end",))
        for cycle in (ready, ended, Cycle(HEAP, 0, None, table=Table(roots="again"))):
            for step in steps:
                self.assertEqual(cycle.why(step), "phase")
        for step in [("scan", 9, 0), ("scan", 0, 9), ("scan", 0, 0)]:
            self.assertEqual(FieldCycle(HEAP, 0).why(step), "phase")
        self.assertEqual(Cycle(FULL, None).why(("new", 0)), "phase")
        half = FieldCycle(HEAP, 0)
        half.step(*[("start",)], *[("scan", 0, f) for f in (0, 1)], *[("scan", 1, f) for f in (0, 1)], ("end",))
        self.assertEqual(half.why(("scan", 0, 0)), "phase")

    def test_register_and_others(self):
        cycle = marking()
        for step in [("move", 3, 3), ("load", 3, 1, 0), ("store", 1, 0, 3), ("move", 3, 1), ("load", 3, 0, 2), ("load", 0, 3, 2),
                     ("store", 3, 2, None), ("store", 0, 2, 3), ("load", 3, 1, 2), ("store", 3, 9, 1)]:
            self.assertEqual(cycle.why(step), "register")
        self.assertEqual(marking(heap=FULL, registers=(None,), colors=("black",) * 40).why(("new", 1)), "register")

    def test_same_and_empty(self):
        self.assertEqual(marking().why(("move", 1, 1)), "same")

    def test_empty_and_field(self):
        for step in [("load", 0, 1, 2), ("store", 1, 2, 0), ("store", 0, 2, 1), ("store", 1, 2, None)]:
            self.assertEqual(marking().why(step), "empty")

    def test_object_and_field(self):
        self.assertEqual(marking(FieldCycle).why(("scan", 3, 2)), "object")

    def test_field_and_color(self):
        for x in (1, 2):
            self.assertEqual(marking(FieldCycle).why(("scan", x, 2)), "field")

    def test_color_and_visited(self):
        for f in (0, 1):
            self.assertEqual(marking(FieldCycle).why(("scan", 2, f)), "color")

    def test_grey_and_white(self):
        cycle = marking(registers=(1,), roots="again")
        self.assertEqual(cycle.why(("end",)), "grey")


class AllSteps(unittest.TestCase):
    """`why` and `moves` against the second machine, over all steps that name what exists or one more."""

    def compare(self, cycle):
        model = Model(cycle.state, cycle.phase, cycle.table, cycle.SCANNING)
        possible = []
        for step in nearby(cycle):
            reason = model.why(step)
            self.assertEqual(cycle.why(step), reason, step)
            if reason is None:
                possible.append(step)
        found = list(cycle.moves())
        self.assertEqual(found, possible)
        self.assertEqual(found, sorted(found, key=step_rank))
        self.assertTrue(all(type(step) is tuple and is_step(step, scanning=cycle.SCANNING) for step in found))

    def test_any_state(self):
        for chance in chances(120, 7):
            scanning = chance.choice(("whole", "fields"))
            state = some_state(chance, scanning, most=4, width=chance.randint(1, 3))
            self.compare(CLASSES[scanning].at(state, some_table(chance)))

    def test_on_the_way(self):
        for chance in chances(40, 8):
            made = chance.choice(list(CLASSES.values()))
            heap = some_heap(chance, most=3, width=chance.randint(1, 2))
            cycle = made(heap, *some_registers(chance, heap, chance.randint(1, 2)), table=some_table(chance))
            self.compare(cycle)
            for _ in wander(chance, cycle, 25):
                self.compare(cycle)

    def test_all_phases(self):
        heap = (2, ((1, None), (None, 2), (0, 2)))
        for scanning, made in CLASSES.items():
            for table in (Table(), Table.full(fresh="white", roots="again"), Table(("load", "grey"), ("old", "white"), fresh="grey")):
                for registers in [(0,), (0, None), (0, 0, 1), (None,), (1, 1, None, 0, 1, 0)]:
                    cycle = made(heap, *registers, table=table)
                    seen = [cycle.phase]
                    self.compare(cycle)
                    for step in list(schedule(cycle, ("move", 0, 1), ("new", 0))) if len(registers) > 2 else list(schedule(cycle)):
                        cycle.step(step)
                        self.compare(cycle)
                        seen.append(cycle.phase)
                    self.assertEqual((cycle.SCANNING, sorted(set(seen))), (scanning, ["ended", "marking", "ready"]))

    def test_forty_objects_and_six_registers(self):
        for made in CLASSES.values():
            heap = (4, tuple(tuple((x + f) % 40 for f in range(4)) for x in range(40)))
            cycle = made(heap, 0, 1, 2, None, 4, 5, table=Table.full(roots="again"))
            self.compare(cycle)
            cycle.step(("start",))
            self.compare(cycle)
            self.assertFalse([step for step in cycle.moves() if step[0] == "new"])

    def test_what_changes_nothing(self):
        cycle = marking(roots="again")
        before = cycle.twin()
        list(cycle.moves())
        for step in nearby(cycle):
            cycle.why(step)
        self.assertEqual(cycle, before)

    def test_moves_of_each_phase(self):
        cycle = Cycle((1, ()), None, table=Table(roots="again"))
        self.assertEqual(list(cycle.moves()), [("start",)])
        cycle.step(("start",))
        self.assertEqual(list(cycle.moves()), [("new", 0), ("look",), ("end",)])
        cycle.step(("end",))
        self.assertEqual(list(cycle.moves()), [])


class RefusedCalls(unittest.TestCase):
    def test_anywhere_in_a_call(self):
        steps = [("start",), ("load", 1, 0, 0), ("store", 0, 0, None), ("scan", 0), ("new", 0), ("clear", 1)]
        wrong = [(None, "form"), (["start"], "form"), (("start",), "phase"), (("load", 7, 0, 0), "register"),
                 (("move", 0, 0), "same"), (("scan", 50), "object"), (("load", 0, 0, 8), "field"), (("look",), "look")]
        for thing, reason in wrong:
            for at in range(1, len(steps) + 1):
                cycle = Cycle((2, ((1, None), (None, None))), 0, None, table=Table(("old", "grey")))
                before = cycle.twin()
                given = steps[:at] + [thing] + steps[at:] + [("end", "never"), None]
                kept = frozen(given)
                with self.assertRaises(InvalidStep) as caught:
                    cycle.step(*given)
                self.assertEqual((caught.exception.index, caught.exception.reason), (at, reason))
                self.assertEqual(cycle, before)
                self.assertEqual((cycle.phase, cycle.steps, cycle.colors), ("ready", (), ("white", "white")))
                self.assertEqual(given, kept)

    def test_behind_steps_that_were_performed(self):
        cycle = Cycle((1, ((1,), (None,))), 0, None)
        cycle.step(("start",), ("load", 1, 0, 0))
        before = cycle.twin()
        with self.assertRaises(InvalidStep) as caught:
            cycle.step(("scan", 0), ("end",))
        self.assertEqual((caught.exception.index, caught.exception.reason), (1, "grey"))
        self.assertEqual(cycle, before)
        self.assertEqual(cycle.undo(), (("load", 1, 0, 0),))

    def test_the_reason_is_that_of_why(self):
        for chance in chances(40, 9):
            scanning = chance.choice(("whole", "fields"))
            cycle = CLASSES[scanning].at(some_state(chance, scanning, most=3, width=2), some_table(chance))
            before = cycle.twin()
            for step in nearby(cycle):
                reason = cycle.why(step)
                if reason is not None:
                    with self.assertRaises(InvalidStep) as caught:
                        cycle.step(step)
                    self.assertEqual((caught.exception.index, caught.exception.reason), (0, reason))
            self.assertEqual(cycle, before)
