"""Points 92 and 93: changes of pairs of tables, and least pair repairs."""

import itertools
import unittest

from shadeguards.errors import InvalidChange, Mismatch
from shadeguards.tables import Table
from shadeguards.threadrepairs import change_pair, cheapest_pair, is_pair_change, thread_repairs
from tests.test_changes import ALL_CHANGES, NO_CHANGES
from tests.threadmodel import check_mismatch, likely_pair, safe_pair, safe_sets
from tests.values import ANY, chances, frozen, without

SCANNINGS = ("whole", "fields")
OWN = [change for change in ALL_CHANGES if change[0] != "roots"]
ALL_PAIR_CHANGES = [("early", change) for change in OWN] + [("late", change) for change in OWN] + [
    ("both", ("roots", "once")), ("both", ("roots", "again"))]
PLACES = {change: place for place, change in enumerate(ALL_PAIR_CHANGES)}
GREY = ("add", ("load", "grey"))
NO_PAIR_CHANGES = [
    (), ("early",), ("early", GREY, GREY), ["early", GREY], ("Early", GREY), ("early ", GREY), ("both", GREY), ("both", ("fresh", "grey")),
    ("both", ("remove", ("old", "grey"))), ("early", ("roots", "again")), ("late", ("roots", "once")), ("early", list(GREY)), ("late", ("add", ["load", "grey"])),
    ("late", ("add", ("load", "red"))), ("early", ("add",)), ("early", ("plus", ("load", "grey"))), ("both", ("roots", "never")), ("both", ("roots",)),
    ("both", ["roots", "once"]), ("none", GREY), (True, GREY), (None, GREY), (("early",), GREY), ({}, GREY), (["late"], GREY), GREY, (GREY, "early"),
    ("early", ("fresh", "red")), ("early", ("fresh", ("grey",))), ("early", "fresh"), {"early": GREY}, "early", ("both", None), ("late", ("fresh", True)),
] + [(which, thing) for which in ("early", "late", "both") for thing in NO_CHANGES] + ANY


def changes_something(early, late, pair_change):
    """Whether a pair change changes something, in the words of points 58 and 92."""
    which, (word, what) = pair_change
    table = late if which == "late" else early
    return {"add": what not in table.entries, "remove": what in table.entries, "fresh": what != table.fresh, "roots": what != table.roots}[word]


def parts(table):
    return [set(table.entries), table.fresh, table.roots]


def changed_parts(early, late, changes):
    """What the changes make of the entries, the fresh and the roots of the tables."""
    told = {"early": parts(early), "late": parts(late)}
    for which, (word, what) in changes:
        for one in (("early", "late") if which == "both" else (which,)):
            if word == "add":
                told[one][0].add(what)
            elif word == "remove":
                told[one][0].discard(what)
            else:
                told[one][1 if word == "fresh" else 2] = what
    return told["early"], told["late"]


def is_repair(early, late, changes, scanning):
    (entries, _, roots), (entries_late, fresh, _) = changed_parts(early, late, changes)
    return safe_sets(entries, entries_late, fresh, roots, scanning)


def least_ones(early, late, scanning, most):
    """All least pair repairs of up to so many changes, by trying all sets of changes in order."""
    useful = [change for change in ALL_PAIR_CHANGES if changes_something(early, late, change)]
    least = []
    for size in range(most + 1):
        for changes in itertools.combinations(useful, size):
            both = [which for which, (word, _) in changes if word == "fresh"]
            if len(both) == len(set(both)) and is_repair(early, late, changes, scanning):
                if not any(set(other) < set(changes) for other in least):
                    least.append(changes)
    return least


class PairChanges(unittest.TestCase):
    def test_forms(self):
        for change in ALL_PAIR_CHANGES:
            self.assertIs(is_pair_change(change), True)
            self.assertIs(is_pair_change(thing=change), True)
        for which in ("early", "late", "both"):
            for change in ALL_CHANGES:
                self.assertIs(is_pair_change((which, change)), (which == "both") == (change[0] == "roots"))
        self.assertEqual(len(ALL_PAIR_CHANGES), 2 * 27 + 2)

    def test_what_is_none(self):
        for thing in NO_PAIR_CHANGES:
            before = frozen(thing)
            self.assertIs(is_pair_change(thing), False, thing)
            self.assertEqual(thing, before)


class ChangePair(unittest.TestCase):
    def test_one_change(self):
        for chance in chances(60, 200):
            early, late = likely_pair(chance)
            kept = (parts(early), parts(late))
            for change in ALL_PAIR_CHANGES:
                if changes_something(early, late, change):
                    made = change_pair(early, late, change)
                    self.assertEqual((type(made), len(made)), (tuple, 2))
                    self.assertEqual((parts(made[0]), parts(made[1])), changed_parts(early, late, [change]))
                else:
                    with self.assertRaises(InvalidChange) as caught:
                        change_pair(early, late, change)
                    self.assertEqual(caught.exception.index, 0)
            self.assertEqual((parts(early), parts(late)), kept)

    def test_none(self):
        early, late = Table(("old", "grey")), Table(fresh="white")
        self.assertEqual(change_pair(early, late), (early, late))

    def test_several(self):
        for chance in chances(300, 201):
            early, late = likely_pair(chance)
            changes = [chance.choice(ALL_PAIR_CHANGES) for _ in range(chance.randint(1, 8))]
            wrong, pair = None, (early, late)
            for index, change in enumerate(changes):
                if not changes_something(*pair, change):
                    wrong = index
                    break
                (entries, fresh, roots), (entries_late, fresh_late, _) = changed_parts(*pair, [change])
                pair = (Table(*entries, fresh=fresh, roots=roots), Table(*entries_late, fresh=fresh_late, roots=roots))
            if wrong is None:
                self.assertEqual(change_pair(early, late, *changes), pair)
            else:
                with self.assertRaises(InvalidChange) as caught:
                    change_pair(early, late, *changes)
                self.assertEqual(caught.exception.index, wrong)

    def test_at_their_moment(self):
        grey, white = ("early", ("fresh", "grey")), ("early", ("fresh", "white"))
        once, again = ("both", ("roots", "once")), ("both", ("roots", "again"))
        add, remove = ("late", GREY), ("late", ("remove", ("load", "grey")))
        for changes, index in [((grey, grey), 1), ((grey, white, grey, grey), 3), ((again, once, once), 2), ((once,), 0), ((add, remove, remove), 2),
                               ((add, ("early", GREY), add), 2), ((remove,), 0), ((again, again), 1)]:
            with self.assertRaises(InvalidChange) as caught:
                change_pair(Table(), Table(), *changes)
            self.assertEqual(caught.exception.index, index)
        self.assertEqual(change_pair(Table(), Table(), grey, white, grey, again, once, again, add, remove, add),
                         (Table(fresh="grey", roots="again"), Table(("load", "grey"), roots="again")))

    def test_what_is_no_pair_change(self):
        for thing in NO_PAIR_CHANGES:
            before = frozen(thing)
            for ahead in ([], [("late", GREY)], [("late", GREY), ("both", ("roots", "again"))]):
                with self.assertRaises(InvalidChange) as caught:
                    change_pair(Table(), Table(), *ahead, thing, None, ("late", GREY))
                self.assertEqual(caught.exception.index, len(ahead))
            self.assertEqual(thing, before)

    def test_mismatch(self):
        check_mismatch(self, change_pair)
        for thing in (None, ("late", GREY), ("both", ("roots", "again")), ()):
            check_mismatch(self, lambda early, late: change_pair(early, late, thing))


class Repairs(unittest.TestCase):
    def compare(self, early, late, scanning, most):
        found = list(thread_repairs(early, late, scanning=scanning))
        self.assertEqual([changes for changes in found if len(changes) <= most], least_ones(early, late, scanning, most))
        self.assertEqual(found, sorted(found, key=lambda changes: (len(changes), [PLACES[change] for change in changes])))
        return max(len(changes) for changes in found)

    def test_against_all_small_sets_of_changes(self):
        for chance in chances(80, 202):
            self.compare(*likely_pair(chance), chance.choice(SCANNINGS), 3)

    def test_against_all_sets_of_some_size(self):
        longest = set()
        for early, late, scanning in [
            (Table(), Table(), "whole"), (Table(("old", "grey")), Table(("load", "white"), fresh="white"), "fields"),
            (Table(("new", "black"), roots="again"), Table(fresh="white", roots="again"), "fields"), (Table.full(fresh="white"), Table(fresh="white"), "whole"),
        ]:
            longest.add(self.compare(early, late, scanning, 5))
        self.assertIn(5, longest)

    def test_they_make_the_pair_safe(self):
        for chance in chances(300, 203):
            early, late = likely_pair(chance)
            for scanning in SCANNINGS:
                found = list(thread_repairs(early, late, scanning=scanning))
                self.assertTrue(found)
                self.assertEqual(len(found), len(set(found)))
                for changes in found:
                    self.assertEqual(changes, tuple(sorted(changes, key=PLACES.get)))
                    self.assertTrue(safe_pair(*change_pair(early, late, *changes), scanning))
                    self.assertTrue(safe_pair(*change_pair(early, late, *changes[::-1]), scanning))
                    for left in range(len(changes)):
                        for part in itertools.combinations(changes, left):
                            self.assertFalse(safe_pair(*change_pair(early, late, *part), scanning))

    def test_cases(self):
        early_black, late_black = ("early", ("add", ("new", "black"))), ("late", ("add", ("new", "black")))
        early_source, late_source = ("early", ("add", ("source", "black"))), ("late", ("add", ("source", "black")))
        again, grey = ("both", ("roots", "again")), ("late", GREY)
        guards = [(early_black, late_black, again), (early_black, late_source, again), (early_source, late_black, again),
                  (early_source, late_source, again)]
        found = list(thread_repairs(Table(), Table()))
        self.assertEqual(found[:6], [(early_black, grey), (early_source, grey)] + guards)
        self.assertEqual(list(thread_repairs(Table(), Table(("load", "grey"), fresh="white"))), [
            (early_black, ("late", ("fresh", "grey"))), (early_black, ("late", ("fresh", "black"))),
            (early_source, ("late", ("fresh", "grey"))), (early_source, ("late", ("fresh", "black"))),
        ] + guards)
        self.assertEqual(list(thread_repairs(Table(("new", "black"), roots="again"), Table(("new", "white"), fresh="white", roots="again")))[:2],
                         [(late_black,), (late_source,)])

    def test_a_safe_pair(self):
        safe = 0
        for chance in chances(150, 204):
            early, late = likely_pair(chance)
            for scanning in SCANNINGS:
                is_alone = list(thread_repairs(early, late, scanning=scanning)) == [()]
                self.assertIs(is_alone, safe_pair(early, late, scanning))
                safe += is_alone
        self.assertGreater(safe, 20)

    def test_by_names_and_kinds(self):
        found = list(thread_repairs(late=Table(), early=Table(), scanning="whole"))
        self.assertEqual(found, list(thread_repairs(Table(), Table())))
        self.assertEqual({type(part) for changes in found for part in (changes, *changes)}, {tuple})

    def test_mismatch(self):
        check_mismatch(self, lambda early, late: list(thread_repairs(early, late)))
        check_mismatch(self, lambda early, late: next(iter(thread_repairs(early, late, scanning="fields"))))


class Cheapest(unittest.TestCase):
    def some_prices(self, chance):
        many = chance.choice((0, 3, 10, 40))
        return tuple((chance.choice(ALL_PAIR_CHANGES), chance.choice((0, 0, 1, 2, 3, 5, 1000))) for _ in range(many))

    def test_chance(self):
        for chance in chances(300, 205):
            (early, late), scanning, prices = likely_pair(chance), chance.choice(SCANNINGS), self.some_prices(chance)
            told = dict(prices)
            offers = [(sum(told.get(change, 1) for change in changes), changes) for changes in thread_repairs(early, late, scanning=scanning)]
            least = min(price for price, _ in offers)
            expected = next(offer for offer in offers if offer[0] == least)
            before = frozen(prices)
            self.assertEqual(cheapest_pair(early, late, prices=prices, scanning=scanning), expected)
            self.assertEqual(cheapest_pair(scanning=scanning, prices=prices, late=late, early=early), expected)
            self.assertEqual(prices, before)
            if not prices:
                self.assertEqual(cheapest_pair(early, late, scanning=scanning), expected)

    def test_no_repair_is_cheaper(self):
        for chance in chances(20, 206):
            (early, late), prices = likely_pair(chance), self.some_prices(chance)
            price, _ = cheapest_pair(early, late, prices=prices)
            useful = [change for change in ALL_PAIR_CHANGES if changes_something(early, late, change)]
            for size in range(3):
                for changes in itertools.combinations(useful, size):
                    if is_repair(early, late, changes, "whole"):
                        self.assertGreaterEqual(sum(dict(prices).get(change, 1) for change in changes), price)

    def test_cases(self):
        early_black, early_source = ("early", ("add", ("new", "black"))), ("early", ("add", ("source", "black")))
        grey = ("late", GREY)
        self.assertEqual(cheapest_pair(Table(), Table()), (2, (early_black, grey)))
        for prices, expected in [
            # The last price of a change counts, and prices of changes that no repair needs do not.
            (((early_black, 0), (early_black, 7)), (2, (early_source, grey))),
            (((early_black, 7), (early_black, 0)), (1, (early_black, grey))),
            (((("early", ("fresh", "white")), 0), (("late", ("remove", ("old", "grey"))), 0), (("both", ("roots", "once")), 0)), (2, (early_black, grey))),
            (tuple((change, 0) for change in ALL_PAIR_CHANGES), (0, (early_black, grey))),
            (tuple((change, 1000) for change in ALL_PAIR_CHANGES), (2000, (early_black, grey))),
            (((early_source, 0), (early_black, 1000)), (1, (early_source, grey))),
        ]:
            self.assertEqual(cheapest_pair(Table(), Table(), prices=prices), expected)
        safe = (Table(("new", "black")), Table(("load", "grey")))
        self.assertEqual(cheapest_pair(*safe, prices=((early_source, 0),)), (0, ()))

    def test_kinds(self):
        found = cheapest_pair(Table(), Table())
        self.assertEqual([type(part) for part in (found, *found)], [tuple, int, tuple])

    def test_every_change_may_have_a_price(self):
        safe = (Table(("new", "black")), Table(("load", "grey")))
        for change in ALL_PAIR_CHANGES:
            for price in (0, 1, 999, 1000):
                self.assertEqual(cheapest_pair(*safe, prices=((change, price),)), (0, ()))

    def test_prices_that_are_none(self):
        change = ("late", GREY)
        for prices in without(ANY, ()) + [[(change, 1)], {change: 1}, "prices"]:
            if type(prices) is tuple:
                continue
            with self.assertRaises(InvalidChange) as caught:
                cheapest_pair(Table(), Table(), prices=prices)
            self.assertEqual(caught.exception.index, -1)
        items = [(thing, 1) for thing in NO_PAIR_CHANGES] + ANY
        items += [(change, price) for price in without(ANY, 0, 1, 2, 7, 40) + [-1, 1001, 10 ** 50, True, False, "1", (1,)]]
        items += [(change,), (change, 1, 1), [change, 1], (1, change), {change: 1}, change, (change, None), (GREY, 1)]
        for item in items:
            for at in (0, 1, 3):
                prices = ((change, 0),) * at + (item, None, item)
                before = frozen(prices)
                with self.assertRaises(InvalidChange) as caught:
                    cheapest_pair(Table(), Table(), prices=prices)
                self.assertEqual(caught.exception.index, at)
                self.assertEqual(prices, before)

    def test_the_order_of_errors(self):
        for prices in (None, (), (None,), [], ((("late", GREY), 1),)):
            check_mismatch(self, lambda early, late: cheapest_pair(early, late, prices=prices))
        with self.assertRaises(Mismatch):
            cheapest_pair(Table(), Table(roots="again"), prices="x", scanning="fields")

    def test_the_tables_stay(self):
        early, late = Table(("old", "white"), fresh="white"), Table(("old", "white"), fresh="white")
        before = (parts(early), parts(late))
        list(thread_repairs(early, late))
        cheapest_pair(early, late)
        change_pair(early, late, ("early", GREY), ("late", ("fresh", "grey")), ("both", ("roots", "again")))
        self.assertEqual((parts(early), parts(late)), before)
