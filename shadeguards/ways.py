"""The three questions, and the ways in which a table has a property."""

from shadeguards.errors import InvalidGoal

GOALS = ("safe", "snapshot", "bounded")
ANY = ("white", "grey", "black")
LIT = ("grey", "black")
BOTH = ("once", "again")


def check_goal(goal):
    """Raise an error if the goal, any value, is not a property."""
    if not isinstance(goal, str) or goal not in GOALS:
        raise InvalidGoal(goal)


def strong_way(*needed):
    """Return the way over looking at the registers again that needs these entries."""
    return (needed, (), ANY, ("again",), "strong")


def strong_ways(scanning):
    """Return the ways that let no visited field hold a white object."""
    if scanning == "fields":
        return (
            strong_way(("new", "grey"), ("new", "black")),
            strong_way(("new", "grey"), ("source", "black")),
            strong_way(("new", "black"), ("source", "grey")),
            strong_way(("source", "grey"), ("source", "black")),
        )
    return (strong_way(("new", "black")), strong_way(("source", "black")))


def safe_ways(registers, scanning):
    """Return the ways of being safe in the setting."""
    if registers == 1:
        return (strong_way(), ((), (), LIT, BOTH, "thread"))
    return strong_ways(scanning) + (
        ((("load", "grey"),), (), LIT, BOTH, "registers"),
        ((("load", "white"), ("old", "grey")), (), LIT, BOTH, "held"),
        ((("old", "white"), ("old", "grey")), (), LIT, BOTH, "paths"),
    )


def snapshot_ways():
    """Return the ways of keeping every object that was reachable at first."""
    return (
        ((("load", "grey"), ("old", "grey")), (), ANY, BOTH, "screened"),
        ((("old", "white"), ("old", "grey")), (), ANY, BOTH, "snapshot"),
    )


def bounded_ways(registers, scanning):
    """Return the ways of being bounded in the setting."""
    # A source that becomes grey again must be scanned again; in a grey one only visited fields are.
    barred = (("source", "black"),)
    if scanning == "fields":
        barred = (("source", "grey"), ("source", "black"))
    black = ((), barred, ("black",), BOTH, "single")
    if registers != 1:
        return (black,)
    shading_white = (("load", "white"), ("old", "white"), ("new", "white"), ("source", "white"))
    return (black, ((), shading_white + barred, ("white",), ("once",), "single"))


def ways(goal, *, registers=2, scanning="whole"):
    """Return the ways of the property, any value, in the setting."""
    check_goal(goal)
    if goal == "safe":
        return safe_ways(registers, scanning)
    if goal == "snapshot":
        return snapshot_ways()
    return bounded_ways(registers, scanning)


def fits(table, way):
    """Return True if the way fits the table."""
    needed, barred, fresh, roots, _ = way
    if table.fresh not in fresh or table.roots not in roots:
        return False
    if not all([entry in table for entry in needed]):
        return False
    return not any([entry in table for entry in barred])


def has_property(table, goal="safe", *, registers=2, scanning="whole"):
    """Return True if the table has the property, any value, in the setting."""
    return any([fits(table, way) for way in ways(goal, registers=registers, scanning=scanning)])
