"""Points 6 to 8, 10 and 19: what the steps do."""

import itertools
import unittest

from shadeguards.countingcycles import cycle_for
from shadeguards.cycles import Cycle
from shadeguards.entries import COLORS, ENTRIES
from shadeguards.fieldcycles import FieldCycle
from shadeguards.states import is_state
from shadeguards.tables import Table
from tests.model import Model
from tests.values import CLASSES, chances, some_heap, some_registers, some_state, some_table, wander

SCANNINGS = ("whole", "fields")


def fields_of(color, width=2):
    return tuple(range(width)) if color == "black" else ()


def after(made, state, table, *steps):
    """The state after the steps, and what `step` returned."""
    cycle = made.at(state, table)
    told = cycle.step(*steps)
    return cycle.state, told


class Loads(unittest.TestCase):
    def test_each_color_and_entry(self):
        for made, source, loaded in itertools.product(CLASSES.values(), COLORS, COLORS):
            heap = (2, ((None, 1), (None, None)))
            visited = (fields_of(source), fields_of(loaded))
            for entry in [*ENTRIES, None]:
                table = Table(entry) if entry else Table()
                state = (heap, (0, None), (source, loaded), visited)
                shades = entry == ("load", source) and loaded == "white"
                colors = (source, "grey" if shades else loaded)
                found, told = after(made, state, table, ("load", 1, 0, 1))
                self.assertEqual(found, (heap, (0, 1), colors, visited))
                self.assertEqual(told, ((1,) if shades else (),))
                found, told = after(made, state, table, ("load", 0, 0, 1))
                self.assertEqual(found, (heap, (1, None), colors, visited))
                found, told = after(made, state, table, ("load", 1, 0, 0))
                self.assertEqual(found, (heap, (0, None), (source, loaded), visited))
                self.assertEqual(told, ((),))

    def test_of_itself(self):
        state = ((1, ((0,),)), (0, None), ("white",), ((),))
        self.assertEqual(after(Cycle, state, Table(("load", "white")), ("load", 1, 0, 0)),
                         (((1, ((0,),)), (0, 0), ("grey",), ((),)), ((0,),)))
        self.assertEqual(after(Cycle, state, Table(("load", "grey")), ("load", 1, 0, 0))[1], ((),))

    def test_over_what_the_register_held(self):
        state = ((1, ((None,), (None,))), (0, 1), ("grey", "grey"), ((), ()))
        self.assertEqual(after(Cycle, state, Table.full(), ("load", 1, 0, 0))[0][1], (0, None))


class Stores(unittest.TestCase):
    def test_each_color_and_entry(self):
        for made, source, old, new in itertools.product(CLASSES.values(), COLORS, COLORS, COLORS):
            heap = (2, ((1, None), (None, None), (None, None)))
            visited = (fields_of(source), fields_of(old), fields_of(new))
            state = (heap, (0, 2), (source, old, new), visited)
            for entry in [*ENTRIES, None]:
                table = Table(entry) if entry else Table()
                colors = [source, old, new]
                seen = list(visited)
                greyed = ()
                if entry == ("old", source) and old == "white":
                    colors[1], greyed = "grey", (1,)
                if entry == ("new", source) and new == "white":
                    colors[2], greyed = "grey", (2,)
                if entry == ("source", source):
                    greyed = () if source == "grey" else (0,)
                    colors[0], seen[0] = "grey", ()
                found, told = after(made, state, table, ("store", 0, 0, 1))
                after_heap = (2, ((2, None), (None, None), (None, None)))
                self.assertEqual(found, (after_heap, (0, 2), tuple(colors), tuple(seen)))
                self.assertEqual(told, (greyed,))

    def test_each_set_of_entries(self):
        heap = (1, ((1,), (None,), (None,)))
        for source in COLORS:
            visited = (fields_of(source, 1), (), ())
            for kinds in itertools.chain.from_iterable(itertools.combinations(("old", "new", "source"), n) for n in range(4)):
                table = Table(*[(kind, source) for kind in kinds])
                greyed = {"old": 1, "new": 2}
                expected = {greyed[kind] for kind in kinds if kind in greyed}
                if "source" in kinds and source != "grey":
                    expected.add(0)
                found, told = after(Cycle, (heap, (0, 2), (source, "white", "white"), visited), table, ("store", 0, 0, 1))
                self.assertEqual(told, (tuple(sorted(expected)),))
                self.assertEqual(found[2], tuple("grey" if x in expected else (source, "white", "white")[x] for x in range(3)))

    def test_of_none(self):
        for made, source, entry in itertools.product(CLASSES.values(), COLORS, ENTRIES):
            state = ((1, ((1,), (None,))), (0, None), (source, "white"), (fields_of(source, 1), ()))
            found, told = after(made, state, Table(entry), ("store", 0, 0, None))
            self.assertEqual(found[0], (1, ((None,), (None,))))
            self.assertEqual(found[1], (0, None))
            self.assertEqual(found[2][1], "grey" if entry == ("old", source) else "white")
            self.assertEqual(found[2][0], "grey" if entry == ("source", source) else source)
            again = after(made, found, Table(entry), ("store", 0, 0, None))[0]
            self.assertEqual(again[0], found[0])

    def test_of_the_source_itself(self):
        for kind, color in [("new", "white"), ("source", "white"), ("old", "white")]:
            state = ((1, ((None,),)), (0, 0), ("white",), ((),))
            found, told = after(Cycle, state, Table((kind, color)), ("store", 0, 0, 1))
            greyed = kind != "old"
            self.assertEqual(found, ((1, ((0,),)), (0, 0), ("grey" if greyed else "white",), ((),)))
            self.assertEqual(told, ((0,) if greyed else (),))

    def test_the_color_before_the_step_counts(self):
        # The old object is the white source: it becomes grey, but the entries of "grey" say nothing then.
        state = ((2, ((0, 1), (None, None))), (0, 1), ("white", "white"), ((), ()))
        table = Table(("old", "white"), ("new", "grey"), ("source", "grey"))
        found, told = after(Cycle, state, table, ("store", 0, 0, 1))
        self.assertEqual((found[2], told), (("grey", "white"), ((0,),)))

    def test_over_the_object_that_it_held(self):
        state = ((1, ((1,), (None,))), (0, 1), ("black", "white"), ((0,), ()))
        for table, colors, told in [
            (Table(), ("black", "white"), ((),)),
            (Table(("old", "black"), ("new", "black")), ("black", "grey"), ((1,),)),
            (Table(("old", "black")), ("black", "grey"), ((1,),)),
            (Table(("new", "black"), ("source", "black")), ("grey", "grey"), ((0, 1),)),
        ]:
            found = after(Cycle, state, table, ("store", 0, 0, 1))
            self.assertEqual((found[0][0], found[0][2], found[1]), (state[0], colors, told))

    def test_a_grey_source_with_visited_fields(self):
        state = ((3, ((None,) * 3,)), (0,), ("grey",), ((0, 2),))
        found, told = after(FieldCycle, state, Table(("source", "grey")), ("store", 0, 0, None))
        self.assertEqual((found[2], found[3], told), (("grey",), ((),), ((),)))
        found, told = after(FieldCycle, state, Table(("source", "black"), ("source", "white")), ("store", 0, 1, 0))
        self.assertEqual((found[2], found[3], told), (("grey",), ((0, 2),), ((),)))

    def test_a_black_source_becomes_grey_again(self):
        for made in CLASSES.values():
            state = ((2, ((None, None),)), (0,), ("black",), ((0, 1),))
            found, told = after(made, state, Table(("source", "black")), ("store", 0, 1, None))
            self.assertEqual((found[2], found[3], told), (("grey",), ((),), ((0,),)))


class MovesAndClears(unittest.TestCase):
    def test_nothing_is_shaded(self):
        for made, color in itertools.product(CLASSES.values(), COLORS):
            state = ((1, ((None,), (None,))), (0, None, 1), (color, "white"), (fields_of(color, 1), ()))
            for step, registers in [
                (("move", 1, 0), (0, 0, 1)), (("move", 0, 2), (1, None, 1)), (("clear", 0), (None, None, 1)),
                (("clear", 2), (0, None, None)), (("move", 2, 0), (0, None, 0)),
            ]:
                found, told = after(made, state, Table.full(roots="again"), step)
                self.assertEqual(found, (state[0], registers, state[2], state[3]))
                self.assertEqual(told, ((),))


class News(unittest.TestCase):
    def test_each_color(self):
        for made, fresh, width, entry in itertools.product(CLASSES.values(), COLORS, (1, 2, 4), (None, ("source", "grey"))):
            table = Table(*[entry] if entry else [], fresh=fresh)
            state = ((width, ((0,) * width,)), (None, 0), ("white",), ((),))
            found, told = after(made, state, table, ("new", 1), ("new", 0))
            self.assertEqual(found[0], (width, ((0,) * width, (None,) * width, (None,) * width)))
            self.assertEqual(found[1], (2, 1))
            self.assertEqual(found[2], ("white", fresh, fresh))
            self.assertEqual(found[3], ((), fields_of(fresh, width), fields_of(fresh, width)))
            self.assertEqual(told, ((), ()))

    def test_in_an_empty_heap(self):
        cycle = Cycle((3, ()), None)
        self.assertEqual(cycle.step(("start",), ("new", 0), ("end",)), ((), (), ()))
        self.assertEqual((cycle.heap, cycle.registers, cycle.begun, cycle.old), ((3, ((None,) * 3,)), (0,), 0, ()))

    def test_the_fortieth(self):
        cycle = Cycle((1, ((None,),) * 39), None)
        cycle.step(("start",), ("new", 0))
        self.assertEqual((len(cycle), cycle.registers, cycle.why(("new", 0))), (40, (39,), "full"))


class Scans(unittest.TestCase):
    def test_whole(self):
        heap = (4, ((1, 2, 0, None), (None,) * 4, (None,) * 4, (None,) * 4))
        state = (heap, (0,), ("grey", "white", "black", "white"), ((), (), (0, 1, 2, 3), ()))
        found, told = after(Cycle, state, Table(), ("scan", 0))
        self.assertEqual(found, (heap, (0,), ("black", "grey", "black", "white"), ((0, 1, 2, 3), (), (0, 1, 2, 3), ())))
        self.assertEqual(told, ((1,),))

    def test_fields(self):
        heap = (3, ((1, 2, 0), (None,) * 3, (None,) * 3))
        cycle = FieldCycle.at((heap, (0,), ("grey", "white", "white"), ((), (), ())), Table.full())
        self.assertEqual(cycle.step(("scan", 0, 1)), ((2,),))
        self.assertEqual((cycle.colors, cycle.visited), (("grey", "white", "grey"), ((1,), (), ())))
        self.assertEqual(cycle.step(("scan", 0, 2)), ((),))
        self.assertEqual((cycle.colors, cycle.visited), (("grey", "white", "grey"), ((1, 2), (), ())))
        self.assertEqual(cycle.step(("scan", 0, 0)), ((1,),))
        self.assertEqual((cycle.colors, cycle.visited), (("black", "grey", "grey"), ((0, 1, 2), (), ())))
        self.assertEqual(cycle.state[:2], (heap, (0,)))

    def test_one_field_is_the_whole_object(self):
        cycle = FieldCycle.at(((1, ((0,),)), (0,), ("grey",), ((),)), Table())
        self.assertEqual((cycle.step(("scan", 0, 0)), cycle.colors, cycle.visited), (((),), ("black",), ((0,),)))

    def test_tables_say_nothing_of_scans(self):
        for scanning, made in CLASSES.items():
            for chance in chances(20, 3):
                state = some_state(chance, scanning)
                for step in made.at(state, Table()).moves():
                    if step[0] == "scan":
                        self.assertEqual(after(made, state, Table(), step), after(made, state, Table.full(), step))


class Looks(unittest.TestCase):
    def test_start_and_look(self):
        for made, roots in itertools.product(CLASSES.values(), ("once", "again")):
            cycle = made((1, ((2,), (None,), (None,))), 0, None, 1, 0, table=Table(roots=roots))
            self.assertEqual(cycle.step(("start",)), ((0, 1),))
            self.assertEqual((cycle.colors, cycle.phase), (("grey", "grey", "white"), "marking"))
        cycle.step(("load", 1, 0, 0))
        self.assertEqual(cycle.step(("look",), ("look",)), ((2,), ()))
        self.assertEqual((cycle.colors, cycle.phase), (("grey", "grey", "grey"), "marking"))

    def test_a_look_shades_white_objects_only(self):
        state = ((1, ((None,),) * 3), (0, 1, 2), ("black", "white", "grey"), ((0,), (), ()))
        found, told = after(Cycle, state, Table(roots="again"), ("look",))
        self.assertEqual((found[2], found[3], told), (("black", "grey", "grey"), ((0,), (), ()), ((1,),)))

    def test_start_with_nothing(self):
        cycle = Cycle((1, ((None,),)), None)
        self.assertEqual((cycle.step(("start",)), cycle.colors), (((),), ("white",)))


class Ends(unittest.TestCase):
    def test_nothing_changes_but_the_phase(self):
        for made, roots in itertools.product(CLASSES.values(), ("once", "again")):
            state = ((1, ((1,), (None,))), (0,), ("black", "white"), ((0,), ()))
            cycle = made.at(state, Table.full(roots=roots))
            self.assertEqual(cycle.step(("end",)), ((),))
            self.assertEqual((cycle.state, cycle.phase, cycle.lost, cycle.freed), (state, "ended", (1,), (1,)))
            self.assertEqual(list(cycle.moves()), [])

    def test_white_registers(self):
        state = ((1, ((None,),)), (0,), ("white",), ((),))
        self.assertEqual(Cycle.at(state, Table(roots="again")).why(("end",)), "white")
        self.assertEqual(Cycle.at(state, Table(roots="once")).why(("end",)), None)


class Lost(unittest.TestCase):
    def test_in_every_phase(self):
        cycle = Cycle((1, ((1,), (None,), (None,))), 0, None)
        self.assertEqual((cycle.lost, cycle.freed, cycle.old), ((0, 1), (), (0, 1)))
        cycle.step(("start",))
        self.assertEqual((cycle.lost, cycle.freed), ((1,), ()))
        cycle.step(("load", 1, 0, 0), ("store", 0, 0, None), ("scan", 0))
        self.assertEqual((cycle.lost, cycle.freed), ((1,), ()))
        cycle.step(("end",))
        self.assertEqual((cycle.lost, cycle.freed, cycle.reachable), ((1,), (1, 2), (0, 1)))


class Chance(unittest.TestCase):
    def compare(self, cycle, model, chance, many):
        for step, told in wander(chance, cycle, many):
            self.assertEqual(told, (model.do(step),))
            self.assertEqual((cycle.state, cycle.phase), (model.state(), model.phase))
            self.assertTrue(is_state(cycle.state, scanning=cycle.SCANNING))

    def test_from_the_beginning(self):
        for chance in chances(150, 4):
            scanning = chance.choice(SCANNINGS)
            heap = some_heap(chance, most=4)
            registers = some_registers(chance, heap, chance.randint(1, 3))
            cycle = cycle_for(scanning, heap, registers, table=some_table(chance))
            self.assertEqual(cycle.colors, ("white",) * len(heap[1]))
            self.compare(cycle, Model(cycle.state, "ready", cycle.table, scanning), chance, 40)

    def test_from_any_state(self):
        for chance in chances(150, 5):
            scanning = chance.choice(SCANNINGS)
            state, table = some_state(chance, scanning), some_table(chance)
            self.compare(CLASSES[scanning].at(state, table), Model(state, "marking", table, scanning), chance, 15)


class Unions(unittest.TestCase):
    """The fact of point 19: by `a | b` a step shades what it shades by a or by b."""

    def test_shaded_objects(self):
        for chance in chances(150, 6):
            scanning = chance.choice(SCANNINGS)
            made = CLASSES[scanning]
            state = some_state(chance, scanning, most=4, width=chance.randint(1, 2))
            words = {"fresh": chance.choice(COLORS), "roots": chance.choice(("once", "again"))}
            a, b = some_table(chance, **words), some_table(chance, **words)
            for step in made.at(state, a | b).moves():
                told = [set(made.at(state, table).step(step)[0]) for table in (a, b, a | b)]
                self.assertEqual(told[2], told[0] | told[1])
                found = [made.at(state, table) for table in (a, b, a | b)]
                for cycle in found:
                    cycle.step(step)
                self.assertEqual(found[2].state[:2], found[0].state[:2])
                self.assertEqual(found[2].state[:2], found[1].state[:2])
