"""Cycles with objects that are scanned field by field."""

from shadeguards.cycles import Cycle


class FieldCycle(Cycle):
    """A cycle in which a scan visits one field of an object."""

    SCANNING = "fields"

    def __init__(self, heap, *registers, table=None):
        super().__init__(heap, *registers, table=table)
