"""The written form of a table: its fresh, its roots, its entries."""

from shadeguards.entries import ENTRIES, is_color
from shadeguards.errors import ParseError
from shadeguards.lines import check_one_line, lines_of


def entry_text(entry):
    """Return the written form of an entry."""
    kind, color = entry
    return f"{kind}-{color}"


def entries_text(entries):
    """Return the written form of the entries of a table."""
    if len(entries) == 0:
        return "-"
    return " ".join([entry_text(entry) for entry in entries])


def entry_place(word):
    """Return the place of the entry that the word writes among all entries, or -1 if it writes none."""
    for place, entry in enumerate(ENTRIES):
        if word == entry_text(entry):
            return place
    return -1


def read_entries(words, start):
    """Return the entries that the words of the first line write, from this one on."""
    if words[start:] == ["-"]:
        return ()
    if len(words) <= start:
        raise ParseError(0, len(words))
    found = []
    latest = -1
    for at in range(start, len(words)):
        place = entry_place(words[at])
        # A word that is no entry has the place -1, which is never behind the latest one.
        if place <= latest:
            raise ParseError(0, at)
        found.append(ENTRIES[place])
        latest = place
    return tuple(found)


def read_table_words(words, start):
    """Return the entries, the fresh and the roots that the words of the first line write, from this one on."""
    if not is_color(words[start]):
        raise ParseError(0, start)
    if len(words) == start + 1 or words[start + 1] not in ("once:", "again:"):
        raise ParseError(0, start + 1)
    entries = read_entries(words, start + 2)
    return entries, words[start], words[start + 1][:-1]


def read_table(text):
    """Return the entries, the fresh and the roots of the table that the text, any value, writes."""
    lines = lines_of(text)
    told = read_table_words(lines[0].split(" "), 0)
    check_one_line(lines)
    return told
