"""Changes of a table, and their order."""

from shadeguards.entries import COLORS, ENTRIES, is_color, is_entry
from shadeguards.errors import InvalidChange
from shadeguards.tables import Table

CHANGE_WORDS = ("add", "remove", "fresh", "roots")
ROOT_WORDS = ("once", "again")


def is_change(thing):
    """Return True if the thing, any value, is a change."""
    if not isinstance(thing, tuple) or len(thing) != 2 or not isinstance(thing[0], str):
        return False
    word, what = thing
    if word == "add" or word == "remove":
        return is_entry(what)
    if word == "fresh":
        return is_color(what)
    return word == "roots" and isinstance(what, str) and what in ROOT_WORDS


def change_rank(change):
    """Return the rank of the change; changes are ordered as their ranks are."""
    word, what = change
    if word == "roots":
        return (CHANGE_WORDS.index(word), ROOT_WORDS.index(what))
    if word == "fresh":
        return (CHANGE_WORDS.index(word), COLORS.index(what))
    return (CHANGE_WORDS.index(word), ENTRIES.index(what))


def alters(table, change):
    """Return True if the change changes something in the table."""
    word, what = change
    if word == "add":
        return what not in table
    if word == "remove":
        return what in table
    return what != (table.fresh if word == "fresh" else table.roots)


def changed_once(table, change):
    """Return what a change that changes something makes of the table."""
    word, what = change
    if word == "fresh":
        return table.changed(fresh=what)
    if word == "roots":
        return table.changed(roots=what)
    one = Table(what).changed(fresh=table.fresh, roots=table.roots)
    return table | one if word == "add" else table - one


def change_table(table, *changes):
    """Return what the changes, any values, one after another make of the table."""
    for index, change in enumerate(changes):
        if not is_change(change) or not alters(table, change):
            raise InvalidChange(index)
        table = changed_once(table, change)
    return table
