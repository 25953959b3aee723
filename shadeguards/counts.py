"""How many tables have a property, and which of them have no entry too many."""

from shadeguards.entries import COLORS, ENTRIES
from shadeguards.tables import Table
from shadeguards.ways import ways

ROOT_WORDS = ("once", "again")


def choices(asked, everything):
    """Return the list of what is asked for, or of everything for None."""
    return list(everything) if asked is None else [asked]


def count_free(needed, barred):
    """Return the number of sets of entries with all the needed and none of the barred ones."""
    if any([entry in barred for entry in needed]):
        return 0
    return 1 << (len(ENTRIES) - len(set(needed + barred)))


def count_sets(fitting, needed, barred):
    """Return the number of sets of entries, with the needed and without the barred ones, that one of the ways fits."""
    if len(fitting) == 0:
        return 0
    first, others = fitting[0], fitting[1:]
    more, less = needed + first[0], barred + first[1]
    # The sets that the first way fits, those that another one fits, less those that are in both numbers.
    return count_free(more, less) + count_sets(others, needed, barred) - count_sets(others, more, less)


def count_tables(goal, *, include=(), exclude=(), fresh=None, roots=None, registers=2, scanning="whole"):
    """Return how many tables of this kind have the property, any value, in the setting."""
    found = ways(goal, registers=registers, scanning=scanning)
    many = 0
    for color in choices(fresh, COLORS):
        for word in choices(roots, ROOT_WORDS):
            fitting = [way for way in found if color in way[2] and word in way[3]]
            many += count_sets(fitting, include, exclude)
    return many


def needing_tables(goal, fresh, roots, registers, scanning):
    """Return the tables that have exactly the needed entries of a way, each once, in order."""
    # No way needs all that another one needs. So without any one of its entries such a table fits no way.
    rows = set()
    for needed, _, colors, words, _ in ways(goal, registers=registers, scanning=scanning):
        places = tuple([ENTRIES.index(entry) for entry in needed])
        for color in choices(fresh, COLORS):
            for word in choices(roots, ROOT_WORDS):
                if color in colors and word in words:
                    rows.add((len(places), places, COLORS.index(color), ROOT_WORDS.index(word)))
    tables = []
    for _, places, light, again in sorted(rows):
        entries = [ENTRIES[place] for place in places]
        color, word = COLORS[light], ROOT_WORDS[again]
        tables.append(Table(*entries, fresh=color, roots=word))
    return tables


def minimal_tables(goal, *, fresh=None, roots=None, registers=2, scanning="whole"):
    """Yield all tables of this kind with the property, any value, that lose it without any one of their entries."""
    for table in needing_tables(goal, fresh, roots, registers, scanning):
        yield table
