"""When a pair of tables is safe for threads, and the ways of being safe. Entries are a table or a tuple of entries."""

from shadeguards.entries import sorted_entries
from shadeguards.errors import Mismatch
from shadeguards.ways import ANY, LIT, strong_ways

# What covers a pair whose late fresh is not white: entries of the early table, entries of the late one, and the name.
COVERS = (
    ((), (("load", "grey"),), "registers"),
    ((("old", "grey"),), (("load", "white"), ("old", "grey")), "held"),
    ((("old", "white"), ("old", "grey")), (("old", "white"), ("old", "grey")), "paths"),
)


def check_same_roots(early, late):
    """Raise an error if the tables have different roots."""
    if early.roots != late.roots:
        raise Mismatch()


def has_all(entries, needed):
    """Return True if all the needed entries are there."""
    return all([entry in entries for entry in needed])


def guard_choices(scanning):
    """Return the guards: the tuples of entries that keep white objects out of visited fields."""
    return tuple([way[0] for way in strong_ways(scanning)])


def is_guarded(entries, scanning):
    """Return True if no store with these entries puts a white object into a visited field."""
    return any([has_all(entries, guard) for guard in guard_choices(scanning)])


def is_covered(early, late, fresh):
    """Return True if no late thread, with this fresh, keeps a white object that the collector will not come to."""
    if fresh not in LIT:
        return False
    return any([has_all(early, needed) and has_all(late, needed_late) for needed, needed_late, _ in COVERS])


def is_safe(early, late, fresh, roots, scanning):
    """Return True if a pair with these entries, this fresh of the late table and these roots is safe."""
    if not is_guarded(early, scanning):
        return False
    return is_covered(early, late, fresh) or (roots == "again" and is_guarded(late, scanning))


def is_safe_with(early, late, scanning):
    """Return True if the pair of tables with the same roots is safe."""
    return is_safe(early, late, late.fresh, late.roots, scanning)


def pair_ways(roots, scanning):
    """Return the ways in which a pair with these roots is safe."""
    guards = guard_choices(scanning)
    found = []
    if roots == "again":
        found = [(guard, guard_late, ANY, "strong") for guard in guards for guard_late in guards]
    for needed, needed_late, name in COVERS:
        for guard in guards:
            both = guard + needed
            found.append((sorted_entries(*both), needed_late, LIT, name))
    return tuple(found)


def pair_fits(early, late, way):
    """Return True if the way fits the pair, whatever its roots are."""
    needed, needed_late, fresh, _ = way
    return has_all(early, needed) and has_all(late, needed_late) and late.fresh in fresh
