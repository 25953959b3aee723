"""What a table needs to keep an invariant."""

from shadeguards.errors import NoInvariant

KEPT_INVARIANTS = ("strong", "registers", "held", "paths", "thread")
LIT_FRESH = (("fresh", "grey"), ("fresh", "black"))
GREY_GUARD = (("new", "grey"), ("source", "grey"))
BLACK_GUARD = (("new", "black"), ("source", "black"))


def check_kept_invariant(name):
    """Raise an error if the name, any value, is not that of an invariant with needs."""
    if not isinstance(name, str) or name not in KEPT_INVARIANTS:
        raise NoInvariant(name)


def guards(scanning):
    """Return the needs that keep white objects out of visited fields."""
    # Only field by field can a grey object have a visited field.
    return (GREY_GUARD, BLACK_GUARD) if scanning == "fields" else (BLACK_GUARD,)


def needs(name, *, registers=2, scanning="whole"):
    """Return the needs of the invariant with this name, any value, in the setting."""
    check_kept_invariant(name)
    if name == "registers":
        return (LIT_FRESH, (("load", "grey"),))
    if name == "held":
        return (LIT_FRESH, (("load", "white"),), (("old", "grey"),))
    if name == "strong":
        return () if registers == 1 else guards(scanning)
    if name == "thread" and registers == 1:
        return (LIT_FRESH,)
    paths = (LIT_FRESH, (("old", "white"),), (("old", "grey"),))
    return paths + guards(scanning) if name == "thread" else paths


def meets(table, need):
    """Return True if the table meets the need."""
    return any([thing in table or thing == ("fresh", table.fresh) for thing in need])


def missing_needs(table, name, *, registers=2, scanning="whole"):
    """Return the needs of the invariant with this name, any value, that the table does not meet."""
    asked = needs(name, registers=registers, scanning=scanning)
    return tuple([need for need in asked if not meets(table, need)])


def is_kept(table, name, *, registers=2, scanning="whole"):
    """Return True if the table keeps the invariant with this name, any value, in the setting."""
    return len(missing_needs(table, name, registers=registers, scanning=scanning)) == 0
