"""Colors, kinds and entries of shading tables, in their order."""

from shadeguards.errors import InvalidEntry

COLORS = ("white", "grey", "black")
KINDS = ("load", "old", "new", "source")
ENTRIES = (
    ("load", "white"),
    ("load", "grey"),
    ("load", "black"),
    ("old", "white"),
    ("old", "grey"),
    ("old", "black"),
    ("new", "white"),
    ("new", "grey"),
    ("new", "black"),
    ("source", "white"),
    ("source", "grey"),
    ("source", "black"),
)


def is_color(thing):
    """Return True if the thing, any value, is a color."""
    return isinstance(thing, str) and thing in COLORS


def is_entry(thing):
    """Return True if the thing, any value, is an entry."""
    return isinstance(thing, tuple) and thing in ENTRIES


def sorted_entries(*entries):
    """Return the entries in their order, each once."""
    for index, entry in enumerate(entries):
        if not is_entry(entry):
            raise InvalidEntry(index)
    return tuple([entry for entry in ENTRIES if entry in entries])
