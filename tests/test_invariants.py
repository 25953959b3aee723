"""Points 35 to 38: white paths and invariants."""

import itertools
import unittest

from shadeguards.cycles import Cycle
from shadeguards.errors import InvalidHeap, InvalidRegisters, InvalidStep, NoInvariant, NoObject
from shadeguards.fieldcycles import FieldCycle
from shadeguards.invariants import INVARIANTS, first_broken, holds, offender
from shadeguards.tables import Table
from shadeguards.whitepaths import white_path
from tests.values import ANY, CLASSES, chances, frozen, some_heap, some_registers, some_state, some_table, wander

NO_NAMES = ["Strong", "strong ", "", "white", ("strong",), ["strong"], {"strong": 1}, None, True, 0, "blackened"] + ANY


def is_white_path(cycle, path, among=None):
    """Whether the tuple is a white path, clause by clause as in point 35; `among` bars all other objects."""
    if type(path) is not tuple or len(path) < 3 or any(type(number) is not int for number in path):
        return False
    g, f, *objects = path
    steps = all(after in cycle.heap[1][before] for before, after in itertools.pairwise(objects))
    return (
        cycle.colors[g] == "grey" and f not in cycle.visited[g] and cycle.heap[1][g][f] == objects[0] and steps
        and all(cycle.colors[x] == "white" for x in objects)
        and (among is None or all(x in among for x in [g, *objects]))
    )


def path_ends(cycle, among):
    """The objects with a white path over these objects, by taking more and more of them."""
    objects = cycle.heap[1]
    found = set()
    for _ in range(len(objects) + 1):
        holders = [(g, f) for g in among for f in range(cycle.heap[0])
                   if (cycle.colors[g] == "grey" and f not in cycle.visited[g]) or g in found]
        found |= {objects[g][f] for g, f in holders
                  if objects[g][f] in among and cycle.colors[objects[g][f]] == "white"}
    return found


def offenders(cycle, name):
    """All places that offend, in order, from the words of point 36."""
    width, objects = cycle.heap
    many = range(len(objects))
    white = {x for x in many if cycle.colors[x] == "white"}
    old = white & set(cycle.old)
    with_path, with_old_path = path_ends(cycle, many), path_ends(cycle, cycle.old)
    held = {objects[g][f] for g in many for f in range(width) if cycle.colors[g] == "grey" and f not in cycle.visited[g]}
    in_fields = {"strong": white, "registers": white, "held": white - held, "paths": white - with_path, "thread": white,
                 "screened": old, "snapshot": set()}[name]
    in_registers = {"strong": set(), "registers": white, "held": white - held, "paths": white - with_path,
                    "thread": white - with_path, "screened": old, "snapshot": set()}[name]
    alone = {"screened": old - with_old_path, "snapshot": old - with_path}.get(name, set())
    places = [("field", x, f) for x in many for f in range(width) if objects[x][f] in in_fields
              and (f in cycle.visited[x] or name == "screened" and x >= cycle.begun)]
    places += [("register", r) for r, x in enumerate(cycle.registers) if x in in_registers]
    return places + [("object", x) for x in sorted(alone)]


def made(heap, registers, colors, half=None, made=FieldCycle):
    """A cycle in the phase "marking"; `half` tells the visited fields of grey objects."""
    visited = [tuple(range(heap[0])) if color == "black" else (half or {}).get(x, ()) for x, color in enumerate(colors)]
    return made.at((heap, registers, colors, tuple(visited)), Table())


class WhitePaths(unittest.TestCase):
    def test_long_ones(self):
        heap = (1, tuple((x + 1 if x < 39 else None,) for x in range(40)))
        cycle = Cycle(heap, 0)
        self.assertIsNone(white_path(cycle, 39))
        cycle.step(("start",))
        self.assertEqual(white_path(cycle, 39), (0, 0, *range(1, 40)))
        self.assertEqual(white_path(cycle=cycle, x=1), (0, 0, 1))
        cycle.step(("scan", 0))
        self.assertEqual(white_path(cycle, 39), (1, 0, *range(2, 40)))

    def test_only_white_objects_have_one(self):
        cycle = made((2, ((1, 2), (3, 0), (3, None), (3, 2))), (0,), ("grey", "grey", "black", "white"))
        self.assertEqual([white_path(cycle, x) for x in range(3)], [None] * 3)
        self.assertEqual(white_path(cycle, 3), (1, 0, 3))

    def test_visited_fields_lead_nowhere(self):
        heap = (2, ((1, None), (None, None)))
        self.assertIsNone(white_path(made(heap, (0,), ("grey", "white"), {0: (0,)}), 1))
        self.assertEqual(white_path(made(heap, (0,), ("grey", "white"), {0: (1,)}), 1), (0, 0, 1))
        self.assertIsNone(white_path(made(heap, (0,), ("black", "white")), 1))
        self.assertIsNone(white_path(made(heap, (0,), ("white", "white")), 1))

    def test_grey_and_black_objects_are_no_part(self):
        heap = (1, ((1,), (2,), (None,)))
        self.assertEqual(white_path(made(heap, (0,), ("grey", "white", "white")), 2), (0, 0, 1, 2))
        self.assertEqual(white_path(made(heap, (0,), ("grey", "grey", "white")), 2), (1, 0, 2))
        self.assertIsNone(white_path(made(heap, (0,), ("grey", "black", "white")), 2))

    def test_rings(self):
        heap = (1, ((1,), (2,), (1,), (3,)))
        cycle = made(heap, (None,), ("grey", "white", "white", "white"))
        self.assertEqual([white_path(cycle, x) for x in range(4)], [None, (0, 0, 1), (0, 0, 1, 2), None])

    def test_chance(self):
        for chance in chances(150, 16):
            scanning = chance.choice(("whole", "fields"))
            cycle = CLASSES[scanning].at(some_state(chance, scanning, most=7), some_table(chance))
            found = path_ends(cycle, range(len(cycle)))
            before = cycle.twin()
            for x in range(len(cycle)):
                path = white_path(cycle, x)
                if x in found:
                    self.assertTrue(is_white_path(cycle, path) and path[-1] == x, path)
                    self.assertEqual(white_path(x=x, cycle=cycle), path)
                else:
                    self.assertIsNone(path)
            self.assertEqual(cycle, before)

    def test_no_object(self):
        cycle = Cycle((1, ((None,), (None,))), 0)
        for thing in [2, -1, True, False, None, "0", (0,), [0], {}, 10 ** 30] + ANY:
            if type(thing) is int and thing in (0, 1):
                continue
            before = frozen(thing)
            with self.assertRaises(NoObject) as caught:
                white_path(cycle, thing)
            self.assertIs(caught.exception.index, thing)
            self.assertEqual(thing, before)
        with self.assertRaises(NoObject):
            white_path(Cycle((1, ()), None), 0)


class Names(unittest.TestCase):
    def test_the_seven(self):
        self.assertEqual(INVARIANTS, ("strong", "registers", "held", "paths", "thread", "screened", "snapshot"))
        self.assertIs(type(INVARIANTS), tuple)

    def test_names_that_are_none(self):
        cycle = Cycle((1, ((None,),)), 0)
        for name in NO_NAMES:
            before = frozen(name)
            for deed in [lambda: holds(cycle, name), lambda: offender(cycle, name), lambda: holds(name=name, cycle=cycle),
                         lambda: first_broken(Table(), ((1, ((None,),)), (0,), ()), name),
                         lambda: first_broken(Table(), (["no heap"], (), (None,)), name)]:
                with self.assertRaises(NoInvariant) as caught:
                    deed()
                self.assertIs(caught.exception.name, name)
            self.assertEqual(name, before)


class Offenders(unittest.TestCase):
    def check(self, cycle, **expected):
        """Each invariant that is named has this least offender, each other one has none."""
        for name in INVARIANTS:
            place = expected.get(name)
            with self.subTest(name):
                self.assertEqual(offenders(cycle, name)[:1], [place] if place else [])
                self.assertEqual(offender(cycle, name), place)
                self.assertIs(holds(cycle, name), place is None)

    def test_all_hold(self):
        heap = (2, ((1, 2), (None, None), (2, None)))
        for colors in [("black",) * 3, ("grey",) * 3]:
            self.check(made(heap, (0, 2), colors))
        # Object 1 is white, but a grey object holds it, and only that.
        self.check(made((1, ((1,), (None,))), (0,), ("grey", "white")))
        self.check(Cycle((1, ()), None))
        self.check(Cycle((1, ((0,),)), None))

    def test_the_phase_ready(self):
        self.check(Cycle((1, ((1,), (None,))), None, 0), registers=("register", 1), held=("register", 1), paths=("register", 1),
                   thread=("register", 1), screened=("register", 1), snapshot=("object", 0))

    def test_a_visited_field(self):
        for held_by, places in [
            # Nothing else holds object 2.
            (None, {"held": ("field", 1, 0), "paths": ("field", 1, 0), "snapshot": ("object", 2)}),
            # A field of a grey object that is not visited holds it, too.
            (2, {}),
        ]:
            cycle = made((1, ((held_by,), (2,), (None,))), (0, 1), ("grey", "black", "white"))
            self.check(cycle, strong=("field", 1, 0), registers=("field", 1, 0), thread=("field", 1, 0),
                       screened=("field", 1, 0), **places)

    def test_a_visited_field_of_a_grey_object(self):
        heap = (2, ((None, 1), (None, None)))
        place = ("field", 0, 1)
        self.check(made(heap, (0,), ("grey", "white"), {0: (1,)}), strong=place, registers=place, held=place, paths=place,
                   thread=place, screened=place, snapshot=("object", 1))
        self.check(made(heap, (0,), ("grey", "white"), {0: (0,)}))

    def test_a_white_path_that_is_longer(self):
        # Object 3 is at the end of a white path from object 0; the black object 2 holds it, too.
        heap = (1, ((1,), (3,), (3,), (None,)))
        place = ("field", 2, 0)
        self.check(made(heap, (0, 2), ("grey", "white", "black", "white")), strong=place, registers=place, held=place,
                   thread=place, screened=place)

    def test_a_register(self):
        heap = (1, ((1,), (2,), (None,)))
        self.check(made(heap, (0, 1), ("grey", "white", "white")), registers=("register", 1), screened=("register", 1))
        self.check(made(heap, (0, 2), ("grey", "white", "white")), registers=("register", 1), held=("register", 1),
                   screened=("register", 1))
        place = ("register", 0)
        self.check(made(heap, (1, None), ("grey", "grey", "black")))
        self.check(made(heap, (2, 0), ("black", "black", "white")), strong=("field", 1, 0), registers=("field", 1, 0),
                   held=("field", 1, 0), paths=("field", 1, 0), thread=("field", 1, 0), screened=("field", 1, 0),
                   snapshot=("object", 2))
        self.check(made((1, ((None,),)), (0,), ("white",)), registers=place, held=place, paths=place, thread=place,
                   screened=place, snapshot=("object", 0))

    def test_an_old_object_without_a_path(self):
        cycle = Cycle((1, ((1,), (None,))), 0)
        cycle.step(("start",))
        self.check(cycle)
        cycle.step(("store", 0, 0, None))
        self.check(cycle, screened=("object", 1), snapshot=("object", 1))

    def test_objects_that_were_not_old(self):
        # Object 1 is white, but it is not old: nothing reached it.
        cycle = Cycle((1, ((None,), (None,))), 0)
        cycle.step(("start",), ("scan", 0))
        self.check(cycle)
        self.assertEqual((cycle.old, cycle.colors), ((0,), ("black", "white")))

    def test_new_objects(self):
        cycle = Cycle((1, ((1,), (None,))), 0, None, None, table=Table(fresh="white"))
        cycle.step(("start",), ("load", 1, 0, 0), ("new", 2), ("store", 2, 0, 1), ("clear", 1))
        # The white new object 2 is in a register, and its field, which is not visited, holds the white old object 1.
        self.check(cycle, registers=("register", 2), held=("register", 2), paths=("register", 2), thread=("register", 2),
                   screened=("field", 2, 0))
        cycle.step(("clear", 2))
        self.check(cycle, screened=("field", 2, 0))
        again = Cycle.at(cycle.state, Table(fresh="white"))
        self.check(again)

    def test_a_white_path_through_a_new_object(self):
        cycle = Cycle((1, ((1,), (None,))), 0, None, None, table=Table(fresh="grey"))
        cycle.step(("start",), ("load", 1, 0, 0), ("new", 2), ("store", 2, 0, 1), ("clear", 1))
        self.check(cycle, screened=("field", 2, 0))
        cycle.step(("store", 0, 0, None))
        # Only the new grey object leads to object 1 now: enough for "snapshot", not for "screened".
        self.assertEqual(offenders(cycle, "screened"), [("field", 2, 0), ("object", 1)])
        self.check(cycle, screened=("field", 2, 0))
        self.assertEqual(white_path(cycle, 1), (2, 0, 1))

    def test_an_object_that_is_not_old_leads_to_an_old_one(self):
        # Object 2 is grey, not old and not new; at the end it alone leads to object 1, which is old.
        state = ((1, ((None,), (None,), (1,))), (0, None), ("grey", "white", "grey"), ((), (), ()))
        self.check(Cycle.at(state, Table()))
        holder = Cycle.at(((1, ((1,), (None,), (1,))), (0, None), ("grey", "white", "grey"), ((), (), ())), Table())
        self.check(holder)
        holder.step(("store", 0, 0, None))
        self.check(holder, screened=("object", 1))
        self.assertEqual(white_path(holder, 1), (2, 0, 1))

    def test_the_least_of_several(self):
        heap = (2, ((2, 2), (2, 2), (None, None)))
        cycle = made(heap, (2, 1, 2), ("white", "black", "white"))
        self.check(cycle, strong=("field", 1, 0), registers=("field", 1, 0), held=("field", 1, 0), paths=("field", 1, 0),
                   thread=("field", 1, 0), screened=("field", 1, 0), snapshot=("object", 2))
        cycle = made((2, ((2, None), (1, 2), (None, None))), (None, 2, 2), ("white", "black", "white"))
        self.check(cycle, strong=("field", 1, 1), registers=("field", 1, 1), held=("field", 1, 1), paths=("field", 1, 1),
                   thread=("field", 1, 1), screened=("field", 1, 1), snapshot=("object", 2))
        cycle = made((1, ((None,), (None,))), (None, 1, 0), ("white", "white"))
        self.check(cycle, registers=("register", 1), held=("register", 1), paths=("register", 1), thread=("register", 1),
                   screened=("register", 1), snapshot=("object", 0))

    def test_cycles_made_by_at_have_no_new_objects(self):
        state = ((1, ((1,), (None,))), (0,), ("grey", "white"), ((), ()))
        self.check(Cycle.at(state, Table()))

    def compare(self, cycle):
        before = cycle.twin()
        for name in INVARIANTS:
            places = offenders(cycle, name)
            self.assertEqual(offender(cycle, name), places[0] if places else None)
            self.assertIs(holds(cycle, name), not places)
        self.assertEqual(cycle, before)

    def test_kinds_of_results(self):
        cycle = Cycle((1, ((None,),)), 0)
        self.assertIs(type(offender(cycle, "registers")), tuple)
        self.assertIs(type(offender(cycle=cycle, name="snapshot")), tuple)
        self.assertEqual([type(part) for part in offender(cycle, "registers")], [str, int])

    def test_chance(self):
        for chance in chances(250, 17):
            scanning = chance.choice(("whole", "fields"))
            if chance.random() < 0.5:
                cycle = CLASSES[scanning].at(some_state(chance, scanning), some_table(chance))
            else:
                heap = some_heap(chance, most=4)
                cycle = CLASSES[scanning](heap, *some_registers(chance, heap, 3), table=some_table(chance))
            self.compare(cycle)
            for _ in wander(chance, cycle, 12):
                self.compare(cycle)


class FirstBroken(unittest.TestCase):
    heap = (1, ((1,), (None,)))
    steps = (("start",), ("load", 1, 0, 0), ("store", 0, 0, None), ("scan", 0), ("end",))

    def test_each_invariant(self):
        expected = {"strong": None, "registers": 2, "held": 3, "paths": 3, "thread": 3, "screened": 2, "snapshot": 3}
        run = (self.heap, (0, None), self.steps)
        for name in INVARIANTS:
            self.assertEqual(first_broken(Table(), run, name), expected[name])
            self.assertEqual(first_broken(name=name, run=run, table=Table(), scanning="whole"), expected[name])
        self.assertIsNone(first_broken(Table(), (self.heap, (0, None), ()), "registers"))
        self.assertIsNone(first_broken(Table(), (self.heap, (0, None), self.steps[:1]), "registers"))

    def test_before_the_first_step_nothing_is_asked(self):
        self.assertIs(holds(Cycle(self.heap, 0), "registers"), False)
        self.assertIsNone(first_broken(Table(), (self.heap, (0,), (("start",), ("scan", 0), ("scan", 1), ("end",))), "registers"))

    def test_scannings(self):
        run = ((2, ((1, None), (None, None))), (0, None), (("start",), ("scan", 0, 1), ("load", 1, 0, 0), ("store", 0, 1, 1)))
        self.assertEqual(first_broken(Table(), run, "strong", scanning="fields"), 4)
        self.assertIsNone(first_broken(Table(("new", "grey")), run, "strong", scanning="fields"))
        with self.assertRaises(InvalidStep) as caught:
            first_broken(Table(), run, "strong")
        self.assertEqual((caught.exception.index, caught.exception.reason), (1, "form"))

    def test_an_invariant_that_holds_again(self):
        steps = (("start",), ("load", 1, 0, 0), ("clear", 1), ("load", 1, 0, 0))
        self.assertEqual(first_broken(Table(), (self.heap, (0, None), steps), "registers"), 2)

    def test_refused_steps(self):
        for at in range(6):
            for thing, reason in [(("move", 0, 0), "same" if 0 < at < 5 else "phase"), (["end"], "form"), (None, "form"),
                                  (("scan", 0, 0), "form"), (("load", True, 0, 0), "form"), ({}, "form")]:
                steps = self.steps[:at] + (thing,) + self.steps[at:] + ("never",)
                before = frozen(steps)
                for name in INVARIANTS:
                    with self.assertRaises(InvalidStep) as caught:
                        first_broken(Table(), (self.heap, (0, None), steps), name)
                    self.assertEqual((caught.exception.index, caught.exception.reason), (at, reason))
                self.assertEqual(steps, before)

    def test_heaps_and_registers(self):
        for thing in ANY + [(1, ([None],)), (5, ())]:
            before = frozen(thing)
            for scanning in ("whole", "fields"):
                with self.assertRaises(InvalidHeap):
                    first_broken(Table(), (thing, (), (None,)), "strong", scanning=scanning)
            self.assertEqual(thing, before)
        for registers, index in [((), -1), ((0,) * 7, -1), ((0, 2), 1), ((True,), 0), (([], 0), 0), ((None, "0"), 1)]:
            for scanning in ("whole", "fields"):
                with self.assertRaises(InvalidRegisters) as caught:
                    first_broken(Table(), (self.heap, registers, (None,)), "strong", scanning=scanning)
                self.assertEqual(caught.exception.index, index)

    def test_chance(self):
        for chance in chances(60, 18):
            scanning = chance.choice(("whole", "fields"))
            heap = some_heap(chance, most=4, width=chance.randint(1, 2))
            registers, table = some_registers(chance, heap, 2), some_table(chance)
            cycle = CLASSES[scanning](heap, *registers, table=table)
            first = dict.fromkeys(INVARIANTS)
            for _ in wander(chance, cycle, 20):
                for name in INVARIANTS:
                    if first[name] is None and offenders(cycle, name):
                        first[name] = len(cycle.steps)
            for name in INVARIANTS:
                run = (heap, registers, cycle.steps)
                self.assertEqual(first_broken(table, run, name, scanning=scanning), first[name])
