"""Least sets of changes that give a table properties, and the cheapest one."""

from shadeguards.changes import change_rank, is_change
from shadeguards.checks import is_number
from shadeguards.entries import COLORS, ENTRIES
from shadeguards.errors import InvalidChange
from shadeguards.ways import check_goal, ways

PRICE_AT_MOST = 1000


def joint_ways(goals, registers, scanning):
    """Return what one way for each of the goals asks together: needed and barred entries, fresh and roots."""
    joint = [((), (), COLORS, ("once", "again"))]
    for goal in goals:
        longer = []
        for needed, barred, fresh, roots in joint:
            for more, less, colors, words, _ in ways(goal, registers=registers, scanning=scanning):
                both_fresh = tuple([color for color in fresh if color in colors])
                both_roots = tuple([word for word in roots if word in words])
                longer.append((needed + more, barred + less, both_fresh, both_roots))
        joint = longer
    return joint


def ways_to_set(word, present, allowed):
    """Return the choices of changes, none or one, after which what the table has at present is allowed."""
    if present in allowed:
        return [()]
    return [((word, thing),) for thing in allowed]


def repairs_for(table, asked):
    """Return the ascending tuples of changes that give the table what is asked, and change nothing else."""
    needed, barred, fresh, roots = asked
    if any([entry in barred for entry in needed]):
        return []
    added = [("add", entry) for entry in ENTRIES if entry in needed and entry not in table]
    removed = [("remove", entry) for entry in ENTRIES if entry in barred and entry in table]
    settings = [
        light + again
        for light in ways_to_set("fresh", table.fresh, fresh)
        for again in ways_to_set("roots", table.roots, roots)
    ]
    return [tuple(added + removed) + setting for setting in settings]


def is_least(changes, found):
    """Return True if none of the repairs found is a proper part of these changes."""
    for others in found:
        if len(others) < len(changes) and all([change in changes for change in others]):
            return False
    return True


def repair_rank(changes):
    """Return the rank of a repair; repairs are ordered as their ranks are."""
    return (len(changes), [change_rank(change) for change in changes])


def check_goals(goals):
    """Raise an error for the first of the goals, any values, that is not a property."""
    for goal in goals:
        check_goal(goal)


def least_repairs(table, goals, registers, scanning):
    """Return the list of all least repairs of the table for the goals, in order."""
    # A goal that is passed several times asks nothing more, but would multiply the joint ways.
    wanted = sorted(set(goals))
    found = {}
    for asked in joint_ways(wanted, registers, scanning):
        for changes in repairs_for(table, asked):
            found[changes] = True
    everything = list(found)
    least = [changes for changes in everything if is_least(changes, everything)]
    return sorted(least, key=repair_rank)


def repairs(table, *goals, registers=2, scanning="whole"):
    """Yield all least repairs of the table for the goals, any values, in order."""
    check_goals(goals)
    for changes in least_repairs(table, goals, registers, scanning):
        yield changes


def is_price(thing, is_right):
    """Return True if the thing, any value, is a pair of a change, for which is_right returns True, and its price."""
    if not isinstance(thing, tuple) or len(thing) != 2 or not is_right(thing[0]):
        return False
    return is_number(thing[1]) and 0 <= thing[1] <= PRICE_AT_MOST


def price_list(prices, is_right):
    """Return the dict of the prices, any value, of changes for which is_right returns True; the last price counts."""
    if not isinstance(prices, tuple):
        raise InvalidChange(-1)
    told = {}
    for index, item in enumerate(prices):
        if not is_price(item, is_right):
            raise InvalidChange(index)
        change, price = item
        told[change] = price
    return told


def cheapest_of(found, told):
    """Return the least price of the repairs found, and the first of them that has it; the dict tells the prices."""
    offers = [(sum([told.get(change, 1) for change in changes]), changes) for changes in found]
    lowest = min([price for price, _ in offers])
    return [offer for offer in offers if offer[0] == lowest][0]


def cheapest(table, *goals, prices=(), registers=2, scanning="whole"):
    """Return the least price of a repair of the table for the goals, any values, and the first repair of this price."""
    check_goals(goals)
    told = price_list(prices, is_change)
    return cheapest_of(least_repairs(table, goals, registers, scanning), told)
