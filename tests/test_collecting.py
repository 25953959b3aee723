"""Point 67: collected cycles."""

import unittest

from shadeguards.collecting import collect, floating, survivors
from shadeguards.countingcycles import CountingCycle, CountingFieldCycle
from shadeguards.cycles import Cycle
from shadeguards.errors import InvalidStep
from shadeguards.fieldcycles import FieldCycle
from shadeguards.scheduling import schedule
from shadeguards.tables import Table
from tests.model import Model, reached
from tests.test_cycles import everything
from tests.test_scheduling import CUT, KINDS, LOAD, PAIR, Expected
from tests.values import ANY, CLASSES, chances, frozen, some_heap, some_registers, some_table, wander

ALL = (Cycle, FieldCycle, CountingCycle, CountingFieldCycle)
CHAIN = (1, ((1,), (2,), (None,)))


def check(case, cycle, parts, program, pace):
    """Collect, beside the other machine."""
    expected = Expected(cycle)
    steps, error = expected.play(program, pace)
    before, old, kept = everything(cycle), cycle.steps, frozen(parts)
    if error is not None:
        with case.assertRaises(InvalidStep) as caught:
            collect(cycle, *parts, pace=pace)
        case.assertEqual((caught.exception.index, caught.exception.reason), error)
        case.assertEqual(everything(cycle), before)
    else:
        freed = tuple(x for x, color in enumerate(expected.model.colors) if color == "white")
        case.assertEqual(collect(cycle, *parts, pace=pace), freed)
        case.assertEqual((cycle.freed, cycle.phase), (freed, "ended"))
        case.assertEqual(cycle.steps, old + tuple(steps))
        case.assertEqual(cycle.state, expected.model.state())
    case.assertEqual(parts, kept)
    return error


class Collect(unittest.TestCase):
    def test_all_paces_scannings_roots_and_phases(self):
        for made in ALL:
            for roots in ("once", "again"):
                for fresh in ("white", "black"):
                    for pace in (0, 1, 100):
                        for ahead in ([], [("start",)], [("start",), LOAD, ("new", 0)]):
                            cycle = made(CHAIN, 0, None, table=Table(fresh=fresh, roots=roots))
                            cycle.step(*ahead)
                            program = [("new", 1), ("store", 0, 0, 1), ("clear", 1)]
                            check(self, cycle, tuple(program), program, pace)
                            self.assertEqual(cycle.phase, "ended")
                            check(self, cycle, (), [], pace)
                            check(self, cycle, tuple(program), program, pace)

    def test_what_it_returns(self):
        cycle = Cycle((1, ((None,), (None,), (None,))), 0, 1)
        self.assertEqual(collect(cycle, ("clear", 1)), (2,))
        self.assertEqual(cycle.steps, (("start",), ("clear", 1), ("scan", 0), ("scan", 1), ("end",)))
        cycle = Cycle((1, ((None,), (None,), (None,))), 0, 1)
        self.assertEqual(collect(cycle=cycle, pace=0), (2,))
        self.assertIs(type(cycle.freed), tuple)
        self.assertEqual(collect(Cycle((1, ()), None)), ())

    def test_the_pace(self):
        # An object that the program cuts off is freed if the collector has not come to it before.
        for program, expected in [([LOAD, CUT], {0: (1, 2), 1: (), 2: (), 100: ()}),
                                  ([LOAD, ("store", 1, 0, None)], {0: (2,), 1: (2,), 2: (), 100: ()})]:
            for pace, freed in expected.items():
                self.assertEqual(collect(Cycle(CHAIN, 0, None), *program, pace=pace), freed)
            one, other = Cycle(CHAIN, 0, None), Cycle(CHAIN, 0, None)
            self.assertEqual(collect(one, *program), collect(other, *program, pace=1))
            self.assertEqual(one, other)

    def test_parts(self):
        cycles = []
        for parts in [(LOAD, CUT), ([LOAD, CUT],), (LOAD, [CUT]), ([], [LOAD], [], CUT)]:
            cycle = Cycle(PAIR, 0, None)
            collect(cycle, *parts)
            cycles.append(cycle)
        for cycle in cycles:
            self.assertEqual(cycle, cycles[0])
        self.assertEqual(cycles[0].steps, tuple(schedule(Cycle(PAIR, 0, None), LOAD, CUT)))

    def test_errors_change_nothing(self):
        for made in ALL:
            for step, reason in [(("end",), "form"), (("load", 0, 0), "form"), (("clear", 7), "register"), (("move", 1, 1), "same"),
                                 (("clear", 1), "empty"), (("load", 0, 0, 1), "field"), (("scan", 0), "form")]:
                for ahead in ([], [("start",)], [("start",), LOAD, ("clear", 1)]):
                    cycle = made(PAIR, 0, None, table=Table(("old", "grey")))
                    cycle.step(*ahead)
                    before = everything(cycle)
                    for parts, index in [((step,), 0), (([LOAD, ("clear", 1)], step, None), 2), (([step, None],), 0)]:
                        with self.assertRaises(InvalidStep) as caught:
                            collect(cycle, *parts, pace=100)
                        self.assertEqual((caught.exception.index, caught.exception.reason), (index, reason))
                        self.assertEqual(everything(cycle), before)
                    self.assertEqual(cycle.steps, tuple(ahead))

    def test_any_value(self):
        cycle = Cycle(PAIR, 0, None)
        before = everything(cycle)
        for thing in ANY:
            kept = frozen(thing)
            with self.assertRaises(InvalidStep) as caught:
                collect(cycle, LOAD, [thing] if type(thing) is list else thing)
            self.assertEqual((caught.exception.index, caught.exception.reason), (1, "form"))
            self.assertEqual((everything(cycle), thing), (before, kept))

    def test_an_ended_cycle(self):
        for made in ALL:
            cycle = made(PAIR, 0, None)
            collect(cycle)
            before = everything(cycle)
            for parts in [(), (LOAD,), (None,), ([],)]:
                with self.assertRaises(InvalidStep) as caught:
                    collect(cycle, *parts)
                self.assertEqual((caught.exception.index, caught.exception.reason), (-1, "phase"))
                self.assertEqual(everything(cycle), before)
            undone = cycle.undo(len(cycle.steps))
            self.assertEqual(len(undone), 4)
            self.assertEqual(collect(cycle, LOAD, CUT), ())

    def test_forty_objects(self):
        for made in ALL:
            heap = (4, tuple(((x + 1) % 40, None, x, 0) for x in range(40)))
            cycle = made(heap, 0, None, table=Table(roots="again"))
            self.assertEqual(collect(cycle, [("clear", 0)], pace=100), ())
            self.assertEqual(cycle.scans, 40 if made.SCANNING == "whole" else 160)

    def test_chance(self):
        errors = set()
        for chance in chances(200, 120):
            scanning = chance.choice(("whole", "fields"))
            heap = some_heap(chance, most=4)
            slots = some_registers(chance, heap, chance.randint(1, 3))
            cycle = CLASSES[scanning](heap, *slots, table=some_table(chance))
            for _ in wander(chance, cycle, chance.choice((0, 0, 3))):
                pass
            # The program is played by another cycle, so that most of its steps are possible.
            double = cycle.twin()
            if double.phase == "ready":
                double.step(("start",))
            program = [step for step, _ in wander(chance, double, 6) if step[0] in KINDS]
            errors.add(check(self, cycle, (program,), program, chance.choice((0, 1, 100))))
        self.assertIn(None, errors)
        self.assertGreater(len(errors), 1)


class Objects(unittest.TestCase):
    def test_all_phases(self):
        heap = (1, ((None,), (None,), (2,), (2,)))
        cycle = Cycle(heap, 0, 1)
        self.assertEqual((floating(cycle), survivors(cycle)), ((2, 3), (0, 1, 2, 3)))
        cycle.step(("start",), ("clear", 1))
        self.assertEqual((floating(cycle), survivors(cycle)), ((1, 2, 3), (0, 1, 2, 3)))
        cycle.step(("scan", 0), ("scan", 1), ("end",))
        self.assertEqual((floating(cycle), survivors(cycle), cycle.freed), ((1,), (0, 1), (2, 3)))
        cycle.undo(2)
        self.assertEqual((floating(cycle=cycle), survivors(cycle=cycle)), ((1, 2, 3), (0, 1, 2, 3)))

    def test_a_lost_object_is_no_survivor(self):
        cycle = Cycle(PAIR, 0, None)
        cycle.step(("start",), LOAD, CUT, ("scan", 0), ("end",))
        self.assertEqual((cycle.lost, floating(cycle), survivors(cycle)), ((1,), (), (0,)))

    def test_chance(self):
        phases = set()
        for chance in chances(150, 121):
            scanning = chance.choice(("whole", "fields"))
            heap = some_heap(chance, most=6)
            cycle = CLASSES[scanning](heap, *some_registers(chance, heap, 2), table=some_table(chance))
            for _ in wander(chance, cycle, chance.choice((0, 3, 40))):
                pass
            if chance.random() < 0.5 and cycle.phase != "ended":
                collect(cycle)
            before = everything(cycle)
            model = Model(cycle.state, cycle.phase, cycle.table, scanning)
            alive = reached(model.fields, model.registers)
            freed = {x for x, color in enumerate(model.colors) if color == "white" and model.phase == "ended"}
            everyone = set(range(len(cycle)))
            self.assertEqual(floating(cycle), tuple(sorted(everyone - alive - freed)))
            self.assertEqual(survivors(cycle), tuple(sorted(everyone - freed)))
            self.assertEqual((type(floating(cycle)), type(survivors(cycle))), (tuple, tuple))
            self.assertEqual(everything(cycle), before)
            phases.add(cycle.phase)
        self.assertEqual(phases, {"ready", "marking", "ended"})
