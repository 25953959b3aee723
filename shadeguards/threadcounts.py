"""How many pairs of tables are safe for threads, and which of them have no entry too many."""

from shadeguards.changes import ROOT_WORDS
from shadeguards.counts import choices, count_free
from shadeguards.entries import COLORS, ENTRIES
from shadeguards.pairs import COVERS, has_all, is_guarded, is_safe, pair_ways
from shadeguards.tables import Table

# The entries on which it depends whether a pair is safe.
NAMED_EARLY = (
    ("old", "white"), ("old", "grey"), ("new", "grey"), ("new", "black"), ("source", "grey"), ("source", "black"),
)
NAMED_LATE = (
    ("load", "white"), ("load", "grey"), ("old", "white"), ("old", "grey"), ("new", "grey"), ("new", "black"),
    ("source", "grey"), ("source", "black"),
)


def subsets(entries):
    """Return the tuples of some of these entries."""
    found = [()]
    for entry in entries:
        found = found + [chosen + (entry,) for chosen in found]
    return found


def groups_of(named, wanted, barred, parts, scanning):
    """Return groups of the sets of entries that have all the wanted entries and none of the barred ones.

    A group is a pair of some named entries and the number of its sets. Its sets are guarded or not, and have each of
    the parts or not, as these named entries do.
    """
    groups = {}
    for chosen in subsets(named):
        others = tuple([entry for entry in named if entry not in chosen])
        many = count_free(chosen + wanted, others + barred)
        told = (is_guarded(chosen, scanning),) + tuple([has_all(chosen, part) for part in parts])
        known, before = groups.get(told, (chosen, 0))
        groups[told] = (known, before + many)
    return list(groups.values())


def count_pairs(*, early=(), not_early=(), late=(), not_late=(), fresh=None, roots=None, scanning="whole"):
    """Return how many pairs of this kind are safe; the fresh is that of the late table."""
    of_early = groups_of(NAMED_EARLY, early, not_early, [needed for needed, _, _ in COVERS], scanning)
    of_late = groups_of(NAMED_LATE, late, not_late, [needed for _, needed, _ in COVERS], scanning)
    kinds = [(color, word) for color in choices(fresh, COLORS) for word in choices(roots, ROOT_WORDS)]
    many = 0
    for first, number in of_early:
        for second, number_late in of_late:
            safe = [1 for color, word in kinds if is_safe(first, second, color, word, scanning)]
            many += number * number_late * len(safe)
    # The fresh of the early table does not matter.
    return many * len(COLORS)


def places_of(entries):
    """Return the indexes of the entries among all entries."""
    return tuple([ENTRIES.index(entry) for entry in entries])


def least_pairs(fresh, roots, scanning):
    """Return the list of the pairs that have exactly the needed entries of a way, in order."""
    # No way needs all that another one needs. So without any of its entries such a pair fits no way.
    rows = []
    for needed, needed_late, colors, _ in pair_ways(roots, scanning):
        if fresh in colors:
            rows.append((len(needed) + len(needed_late), places_of(needed), places_of(needed_late)))
    pairs = []
    for _, first, second in sorted(rows):
        of_early = [ENTRIES[place] for place in first]
        of_late = [ENTRIES[place] for place in second]
        pairs.append((Table(*of_early, roots=roots), Table(*of_late, fresh=fresh, roots=roots)))
    return pairs


def minimal_pairs(*, fresh="black", roots="once", scanning="whole"):
    """Yield all safe pairs of this kind, with a black fresh of the early table, that have no entry too many."""
    for pair in least_pairs(fresh, roots, scanning):
        yield pair
