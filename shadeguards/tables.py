"""Shading tables."""

from shadeguards.entries import ENTRIES, is_color, sorted_entries
from shadeguards.errors import InvalidFresh, InvalidRoots, Mismatch
from shadeguards.tabletexts import entries_text, read_table


class Table:
    """A set of entries, a color for new objects and a word for the roots. It never changes."""

    FRESH = ("white", "grey", "black")
    ROOTS = ("once", "again")

    def __init__(self, *entries, fresh="black", roots="once"):
        self._entries = sorted_entries(*entries)
        if not is_color(fresh):
            raise InvalidFresh(fresh)
        if not isinstance(roots, str) or roots not in self.ROOTS:
            raise InvalidRoots(roots)
        self._fresh = fresh
        self._roots = roots

    @classmethod
    def empty(cls, *, fresh="black", roots="once"):
        """Return the table without entries."""
        return cls(fresh=fresh, roots=roots)

    @classmethod
    def full(cls, *, fresh="black", roots="once"):
        """Return the table with all entries."""
        return cls(*ENTRIES, fresh=fresh, roots=roots)

    @classmethod
    def read(cls, text):
        """Return the table that the text, any value, writes."""
        entries, fresh, roots = read_table(text)
        return cls(*entries, fresh=fresh, roots=roots)

    @property
    def entries(self):
        """The entries in their order."""
        return self._entries

    @property
    def fresh(self):
        """The color of new objects."""
        return self._fresh

    @property
    def roots(self):
        """The word that tells how often the registers are looked at."""
        return self._roots

    def changed(self, *, fresh=None, roots=None):
        """Return the table with the same entries and this fresh and these roots; None leaves them."""
        if fresh is None:
            fresh = self._fresh
        if roots is None:
            roots = self._roots
        return Table(*self._entries, fresh=fresh, roots=roots)

    def within(self, other):
        """Return True if the other table differs at most by more entries."""
        if not self._is_akin(other):
            return False
        return all([entry in other._entries for entry in self._entries])

    def _is_akin(self, other):
        return self._fresh == other._fresh and self._roots == other._roots

    def _joined(self, other, entries):
        if not self._is_akin(other):
            raise Mismatch()
        return Table(*entries, fresh=self._fresh, roots=self._roots)

    def __call__(self, kind, color):
        """Return what a load or a store shades if its source has this color."""
        if kind == "load":
            return ("loaded",) if ("load", color) in self._entries else ()
        return tuple([part for part in ("old", "new", "source") if (part, color) in self._entries])

    def __or__(self, other):
        return self._joined(other, self._entries + other._entries)

    def __and__(self, other):
        return self._joined(other, [entry for entry in self._entries if entry in other._entries])

    def __sub__(self, other):
        return self._joined(other, [entry for entry in self._entries if entry not in other._entries])

    def __eq__(self, other):
        return (
            isinstance(other, Table)
            and self._entries == other._entries
            and self._fresh == other._fresh
            and self._roots == other._roots
        )

    def __contains__(self, thing):
        return thing in self._entries

    def __len__(self):
        return len(self._entries)

    def __bool__(self):
        return bool(self._entries)

    def __str__(self):
        return f"{self._fresh} {self._roots}: {entries_text(self._entries)}"

    def __repr__(self):
        return f"Table({len(self._entries)} entries, fresh {self._fresh}, roots {self._roots})"
