"""Cycles that count how often each entry of the table changes something, and the class that fits."""

from shadeguards.cycles import Cycle
from shadeguards.fieldcycles import FieldCycle


def source_of(step, registers):
    """Return the source of a load or store."""
    return registers[step[2]] if step[0] == "load" else registers[step[1]]


def shaded_object(kind, step, source, state):
    """Return the object, or None, that an entry of this kind shades in a load or store with this source."""
    heap, registers, _, _ = state
    fields = heap[1][source]
    if kind == "load":
        return fields[step[3]]
    if kind == "old":
        return fields[step[2]]
    return None if step[3] is None else registers[step[3]]


def changes_something(entry, step, state):
    """Return True if the entry changes something in this step, which is possible in this state."""
    kind, color = entry
    _, registers, colors, visited = state
    if step[0] != ("load" if kind == "load" else "store"):
        return False
    source = source_of(step, registers)
    if colors[source] != color:
        return False
    if kind == "source":
        return color != "grey" or len(visited[source]) > 0
    x = shaded_object(kind, step, source, state)
    return x is not None and colors[x] == "white"


def fired_entries(table, past):
    """Return the pairs of each entry of the table and the number of steps in which it changed something."""
    told = []
    for entry in table.entries:
        hits = [1 for step, state, _ in past if changes_something(entry, step, state)]
        told.append((entry, len(hits)))
    return tuple(told)


class CountingCycle(Cycle):
    """A cycle that counts."""

    def __init__(self, heap, *registers, table=None):
        super().__init__(heap, *registers, table=table)

    @property
    def fired(self):
        """In how many of the steps each entry of the table changed something."""
        return fired_entries(self._table, self._past)


class CountingFieldCycle(CountingCycle, FieldCycle):
    """A cycle that scans field by field and counts."""

    def __init__(self, heap, *registers, table=None):
        super().__init__(heap, *registers, table=table)

    @property
    def fired(self):
        """In how many of the steps each entry of the table changed something."""
        return fired_entries(self._table, self._past)


def cycle_for(scanning, heap, registers, *, table=None, counting=False):
    """Return a cycle of the class that fits the scanning and the counting."""
    if counting:
        if scanning == "fields":
            return CountingFieldCycle(heap, *registers, table=table)
        return CountingCycle(heap, *registers, table=table)
    if scanning == "fields":
        return FieldCycle(heap, *registers, table=table)
    return Cycle(heap, *registers, table=table)
