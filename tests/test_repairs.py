"""Points 59 to 61: least repairs, and the cheapest one."""

import collections
import itertools
import unittest

from shadeguards.changes import change_table
from shadeguards.entries import ENTRIES
from shadeguards.errors import InvalidChange, InvalidGoal
from shadeguards.repairs import cheapest, repairs
from shadeguards.tables import Table
from shadeguards.ways import ways
from tests.model import has
from tests.test_changes import ALL_CHANGES, NO_CHANGES
from tests.values import ANY, GOALS, SETTINGS, chances, check_goals_that_are_none, frozen, some_table, without

Parts = collections.namedtuple("Parts", "entries fresh roots")
PLACES = {change: place for place, change in enumerate(ALL_CHANGES)}


def useful(table):
    """The changes that change something in the table, in order."""
    return [(word, what) for word, what in ALL_CHANGES if {
        "add": what not in table.entries, "remove": what in table.entries,
        "fresh": what != table.fresh, "roots": what != table.roots,
    }[word]]


def changed_parts(table, changes):
    """What the changes make of a table that they change."""
    added = {what for word, what in changes if word == "add"}
    removed = {what for word, what in changes if word == "remove"}
    settings = dict(change for change in changes if change[0] in ("fresh", "roots"))
    entries = set(table.entries) - removed | added
    return Parts(entries, settings.get("fresh", table.fresh), settings.get("roots", table.roots))


def all_repairs(table, goals, registers, scanning, most):
    """All repairs of up to so many changes, least or not, in the order of point 59."""
    for size in range(most + 1):
        for changes in itertools.combinations(useful(table), size):
            if len([1 for word, _ in changes if word == "fresh"]) < 2:
                parts = changed_parts(table, changes)
                if all(has(parts, goal, registers, scanning) for goal in goals):
                    yield changes


def least_ones(found):
    """Those that have no other one as a proper part; the least ones come before those that contain them."""
    least = []
    for changes in found:
        if not any(set(other) < set(changes) for other in least):
            least.append(changes)
    return least


class Repairs(unittest.TestCase):
    def compare(self, chance, most):
        table, goals = some_table(chance), [chance.choice(GOALS) for _ in range(chance.randint(0, 3))]
        registers, scanning = chance.choice(SETTINGS)
        expected = least_ones(all_repairs(table, goals, registers, scanning, most))
        found = list(repairs(table, *goals, registers=registers, scanning=scanning))
        self.assertEqual([changes for changes in found if len(changes) <= most], expected)
        self.assertEqual(found, sorted(found, key=lambda changes: (len(changes), [PLACES[change] for change in changes])))
        self.assertEqual(list(repairs(table, *goals[::-1], *goals, registers=registers, scanning=scanning)), found)

    def test_against_all_small_sets_of_changes(self):
        for chance in chances(120, 82):
            self.compare(chance, 3)

    def test_against_all_sets_of_changes(self):
        for chance in chances(12, 83):
            self.compare(chance, 14)

    def test_they_make_the_table_right(self):
        for chance in chances(200, 84):
            table, goals = some_table(chance), [chance.choice(GOALS) for _ in range(chance.randint(1, 3))]
            for registers, scanning in SETTINGS:
                found = list(repairs(table, *goals, registers=registers, scanning=scanning))
                self.assertTrue(found)
                self.assertEqual(len(found), len(set(found)))
                for changes in found:
                    self.assertEqual(changes, tuple(sorted(changes, key=PLACES.get)))
                    for order in (changes, changes[::-1]):
                        made = change_table(table, *order)
                        self.assertTrue(all(has(made, goal, registers, scanning) for goal in goals))
                    for size in range(len(changes)):
                        for part in itertools.combinations(changes, size):
                            made = change_table(table, *part)
                            self.assertFalse(all(has(made, goal, registers, scanning) for goal in goals))

    def test_they_add_and_remove_what_ways_ask(self):
        # The last fact of point 60.
        for chance in chances(100, 85):
            table, goals = some_table(chance), chance.sample(GOALS, chance.randint(1, 3))
            registers, scanning = chance.choice(SETTINGS)
            choices = [ways(goal, registers=registers, scanning=scanning) for goal in goals]
            asked = set()
            for chosen in itertools.product(*choices):
                needed = {entry for way in chosen for entry in way[0]} - set(table.entries)
                barred = {entry for way in chosen for entry in way[1]} & set(table.entries)
                asked.add(frozenset([("add", entry) for entry in needed] + [("remove", entry) for entry in barred]))
            for changes in repairs(table, *goals, registers=registers, scanning=scanning):
                self.assertIn(frozenset(change for change in changes if change[0] in ("add", "remove")), asked)

    def test_cases(self):
        add = {entry: ("add", entry) for entry in ENTRIES}
        again, black = ("roots", "again"), add["new", "black"]
        self.assertEqual(list(repairs(Table(("old", "grey")), "safe")), [
            (add["load", "white"],), (add["load", "grey"],), (add["old", "white"],), (black, again), (add["source", "black"], again),
        ])
        self.assertEqual(list(repairs(Table(fresh="white"), "safe", registers=1)), [
            (("fresh", "grey"),), (("fresh", "black"),), (("roots", "again"),),
        ])
        self.assertEqual(list(repairs(Table(fresh="grey"), "bounded")), [(("fresh", "black"),)])
        self.assertEqual(list(repairs(Table(fresh="grey"), "bounded", registers=1)), [(("fresh", "white"),), (("fresh", "black"),)])
        self.assertEqual(list(repairs(Table(), "snapshot")), [
            (add["load", "grey"], add["old", "grey"]), (add["old", "white"], add["old", "grey"]),
        ])
        # The entry that makes it safe is one that the second way of being bounded bars.
        found = list(repairs(Table(fresh="white"), "safe", "snapshot", "bounded", registers=1))
        self.assertEqual(found, [
            (add["load", "grey"], add["old", "grey"], ("fresh", "black")), (add["old", "white"], add["old", "grey"], ("fresh", "black")),
        ])

    def test_nothing_to_repair(self):
        for chance in chances(50, 86):
            for registers, scanning in SETTINGS:
                self.assertEqual(list(repairs(some_table(chance), registers=registers, scanning=scanning)), [()])
        table = Table(("load", "grey"), ("old", "grey"))
        for goals in ([], ["safe"], ["snapshot", "safe"], ["bounded", "safe", "snapshot"], ["safe", "safe"]):
            self.assertEqual(list(repairs(table, *goals)), [()])
            self.assertEqual(list(repairs(table, *goals, scanning="fields", registers=5)), [()])

    def test_the_same_goal_often(self):
        many = ("safe", "bounded") * 200
        self.assertEqual(list(repairs(Table(fresh="grey"), *many)), list(repairs(Table(fresh="grey"), "bounded", "safe")))
        self.assertEqual(cheapest(Table(fresh="grey"), *many), cheapest(Table(fresh="grey"), "safe", "bounded"))

    def test_arguments(self):
        for chance in chances(40, 87):
            table, goal = some_table(chance), chance.choice(GOALS)
            self.assertEqual(list(repairs(table, goal)), list(repairs(table, goal, registers=2, scanning="whole")))
            for scanning in ("whole", "fields"):
                for registers in (3, 6, 10 ** 40):
                    self.assertEqual(list(repairs(table, goal, scanning=scanning, registers=registers)),
                                     list(repairs(table, goal, registers=2, scanning=scanning)))
                    self.assertEqual(cheapest(table, goal, scanning=scanning, registers=registers),
                                     cheapest(table, goal, registers=2, scanning=scanning))

    def test_the_table_stays(self):
        table = Table(("source", "black"), fresh="white")
        before = (table.entries, table.fresh, table.roots)
        found = list(repairs(table, *GOALS))
        self.assertEqual((table.entries, table.fresh, table.roots), before)
        self.assertEqual([type(part) for part in (found[0], found[0][0])], [tuple, tuple])

    def test_goals_that_are_none(self):
        check_goals_that_are_none(self, lambda goal: list(repairs(Table(), goal)))
        check_goals_that_are_none(self, lambda goal: list(repairs(Table(), "safe", goal, None, registers=1, scanning="fields")))
        check_goals_that_are_none(self, lambda goal: cheapest(Table(), "safe", "bounded", goal, "x", prices=None))
        check_goals_that_are_none(self, lambda goal: cheapest(Table(), goal, prices=(None,), registers=1, scanning="fields"))


class Cheapest(unittest.TestCase):
    def some_prices(self, chance):
        many = chance.choice((0, 3, 10, 29))
        prices = [(chance.choice(ALL_CHANGES), chance.choice((0, 0, 1, 2, 3, 5, 1000))) for _ in range(many)]
        return tuple(prices)

    def test_chance(self):
        for chance in chances(400, 88):
            table, goals = some_table(chance), [chance.choice(GOALS) for _ in range(chance.randint(0, 3))]
            registers, scanning = chance.choice(SETTINGS)
            words = {"registers": registers, "scanning": scanning}
            prices = self.some_prices(chance)
            told = dict(prices)
            offers = [(sum(told.get(change, 1) for change in changes), changes) for changes in repairs(table, *goals, **words)]
            least = min(price for price, _ in offers)
            expected = next(offer for offer in offers if offer[0] == least)
            before = frozen(prices)
            self.assertEqual(cheapest(table, *goals, prices=prices, **words), expected)
            self.assertEqual(prices, before)
            if not prices:
                self.assertEqual(cheapest(table, *goals, **words), expected)
                self.assertEqual(expected, (len(offers[0][1]), offers[0][1]))

    def test_no_repair_is_cheaper(self):
        for chance in chances(30, 89):
            table, goals, prices = some_table(chance), [chance.choice(GOALS)], self.some_prices(chance)
            price, _ = cheapest(table, *goals, prices=prices)
            for changes in all_repairs(table, goals, 2, "whole", 3):
                self.assertGreaterEqual(sum(dict(prices).get(change, 1) for change in changes), price)

    def test_cases(self):
        black, grey = ("add", ("new", "black")), ("add", ("load", "grey"))
        self.assertEqual(cheapest(Table(), "safe"), (1, (grey,)))
        # The last price of a change counts.
        for prices, expected in [
            (((grey, 0), (grey, 1000)), (2, (("add", ("load", "white")), ("add", ("old", "grey"))))),
            (((grey, 1000), (grey, 0)), (0, (grey,))),
            (((grey, 2),), (2, (grey,))),
            (((grey, 3), (("roots", "again"), 0)), (1, (black, ("roots", "again")))),
            (((("remove", ("old", "black")), 0), (("fresh", "white"), 0)), (1, (grey,))),
            (tuple((change, 1000) for change in ALL_CHANGES), (1000, (grey,))),
            (tuple((change, 0) for change in ALL_CHANGES), (0, (grey,))),
        ]:
            self.assertEqual(cheapest(Table(), "safe", prices=prices), expected)
        self.assertEqual(cheapest(Table(), prices=((grey, 0),)), (0, ()))
        self.assertEqual(cheapest(Table(("load", "grey")), "safe", prices=((grey, 0),)), (0, ()))

    def test_kinds(self):
        found = cheapest(Table(), "safe")
        self.assertEqual([type(part) for part in (found, *found)], [tuple, int, tuple])

    def test_prices_that_are_none(self):
        grey = ("add", ("load", "grey"))
        for prices in without(ANY, ()) + [[(grey, 1)], {grey: 1}, "prices"]:
            if type(prices) is tuple:
                continue
            with self.assertRaises(InvalidChange) as caught:
                cheapest(Table(), "safe", prices=prices)
            self.assertEqual(caught.exception.index, -1)
        items = [(thing, 1) for thing in NO_CHANGES] + ANY
        items += [(grey, price) for price in without(ANY, 0, 1, 2, 7, 40) + [-1, 1001, 10 ** 50, True, False, "1", 1.0, (1,)]]
        items += [(grey,), (grey, 1, 1), [grey, 1], (1, grey), {grey: 1}, grey, (grey, None)]
        for item in items:
            for at in (0, 1, 3):
                prices = ((grey, 0),) * at + (item, None, item)
                before = frozen(prices)
                with self.assertRaises(InvalidChange) as caught:
                    cheapest(Table(), "safe", prices=prices)
                self.assertEqual(caught.exception.index, at)
                self.assertEqual(prices, before)
                # The goals come first.
                with self.assertRaises(InvalidGoal):
                    cheapest(Table(), "safe", "x", prices=prices)

    def test_every_change_may_have_a_price(self):
        for change in ALL_CHANGES:
            for price in (0, 1, 999, 1000):
                self.assertEqual(cheapest(Table(("load", "grey")), "safe", prices=((change, price),)), (0, ()))
