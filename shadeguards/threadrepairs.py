"""Changes of pairs of tables, least sets of them that make a pair safe for threads, and the cheapest one."""

from shadeguards.changes import ROOT_WORDS, alters, change_rank, changed_once, is_change
from shadeguards.entries import COLORS
from shadeguards.errors import InvalidChange
from shadeguards.pairs import check_same_roots, pair_ways
from shadeguards.repairs import cheapest_of, is_least, price_list, repairs_for

PLACES = ("early", "late", "both")


def is_pair_change(thing):
    """Return True if the thing, any value, has the form of a pair change."""
    if not isinstance(thing, tuple) or len(thing) != 2 or not isinstance(thing[0], str):
        return False
    which, change = thing
    if which not in PLACES or not is_change(change):
        return False
    return (which == "both") == (change[0] == "roots")


def pair_change_rank(pair_change):
    """Return the rank of the pair change; pair changes are ordered as their ranks are."""
    which, change = pair_change
    return (PLACES.index(which), change_rank(change))


def changed_tables(early, late, pair_change):
    """Return the tuple of the two tables that the pair change makes of these, or None if it changes nothing."""
    which, change = pair_change
    if not alters(late if which == "late" else early, change):
        return None
    if which == "early":
        return (changed_once(early, change), late)
    if which == "late":
        return (early, changed_once(late, change))
    return (changed_once(early, change), changed_once(late, change))


def change_pair(early, late, *changes):
    """Return the tuple of the two tables that the changes, any values, one after another make of these."""
    check_same_roots(early, late)
    pair = (early, late)
    for index, pair_change in enumerate(changes):
        changed = None
        if is_pair_change(pair_change):
            early, late = pair
            changed = changed_tables(early, late, pair_change)
        if changed is None:
            raise InvalidChange(index)
        pair = changed
    return pair


def repairs_towards(early, late, way, word):
    """Return the pair repairs after which the way fits and the roots are this word, and that change nothing else."""
    needed, needed_late, fresh, _ = way
    last = () if word == late.roots else (("both", ("roots", word)),)
    found = []
    for first in repairs_for(early, (needed, (), COLORS, ROOT_WORDS)):
        for second in repairs_for(late, (needed_late, (), fresh, ROOT_WORDS)):
            own = [("early", change) for change in first] + [("late", change) for change in second]
            found.append(tuple(own) + last)
    return found


def pair_repair_rank(changes):
    """Return the rank of a pair repair; pair repairs are ordered as their ranks are."""
    return (len(changes), [pair_change_rank(pair_change) for pair_change in changes])


def least_pair_repairs(early, late, scanning):
    """Return the list of all least pair repairs, in order."""
    found = {}
    for word in ROOT_WORDS:
        for way in pair_ways(word, scanning):
            for changes in repairs_towards(early, late, way, word):
                found[changes] = True
    everything = list(found)
    least = [changes for changes in everything if is_least(changes, everything)]
    return sorted(least, key=pair_repair_rank)


def thread_repairs(early, late, *, scanning="whole"):
    """Yield all least pair repairs, in order."""
    check_same_roots(early, late)
    for changes in least_pair_repairs(early, late, scanning):
        yield changes


def cheapest_pair(early, late, *, prices=(), scanning="whole"):
    """Return the least price of a pair repair and the first least pair repair of this price; prices is any value."""
    check_same_roots(early, late)
    told = price_list(prices, is_pair_change)
    return cheapest_of(least_pair_repairs(early, late, scanning), told)
