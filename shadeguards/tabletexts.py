"""The written form of a table: its fresh, its roots, its entries."""

from shadeguards.entries import ENTRIES, is_color
from shadeguards.errors import ParseError


def entry_text(entry):
    """Return the written form of an entry."""
    kind, color = entry
    return f"{kind}-{color}"


def entries_text(entries):
    """Return the written form of the entries of a table."""
    if len(entries) == 0:
        return "-"
    return " ".join([entry_text(entry) for entry in entries])


def entry_place(word):
    """Return the place of the entry that the word writes among all entries, or -1 if it writes none."""
    for place, entry in enumerate(ENTRIES):
        if word == entry_text(entry):
            return place
    return -1


def read_entries(words):
    """Return the entries that the words of a table from the third one on write."""
    if words[2:] == ["-"]:
        return ()
    if len(words) == 2:
        raise ParseError(0, 2)
    found = []
    latest = -1
    for at in range(2, len(words)):
        place = entry_place(words[at])
        # A word that is no entry has the place -1, which is never behind the latest one.
        if place <= latest:
            raise ParseError(0, at)
        found.append(ENTRIES[place])
        latest = place
    return tuple(found)


def read_table(text):
    """Return the entries, the fresh and the roots of the table that the text, any value, writes."""
    if not isinstance(text, str):
        raise ParseError(0, 0)
    lines = text.split("\n")
    words = lines[0].split(" ")
    if not is_color(words[0]):
        raise ParseError(0, 0)
    if len(words) < 2 or words[1] not in ("once:", "again:"):
        raise ParseError(0, 1)
    entries = read_entries(words)
    if len(lines) > 1:
        raise ParseError(1, 0)
    return entries, words[0], words[1][:-1]
