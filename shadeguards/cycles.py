"""Cycles that play the machine, with objects that are scanned as a whole."""

from shadeguards.checks import is_number
from shadeguards.effects import greyed_objects, phase_after, state_after
from shadeguards.errors import InvalidHeap, InvalidRegisters, InvalidState, InvalidStep, NothingToUndo, Started
from shadeguards.heaps import REGISTERS_AT_MOST, is_heap, may_hold
from shadeguards.possible import possible_steps
from shadeguards.reaching import held_objects, reach_from
from shadeguards.refusals import refusal
from shadeguards.states import is_state
from shadeguards.tables import Table
from shadeguards.trials import Trial


def check_start(heap, registers):
    """Raise the error for a heap, any value, and a tuple of registers with which no cycle starts."""
    if not is_heap(heap):
        raise InvalidHeap()
    if not 1 <= len(registers) <= REGISTERS_AT_MOST:
        raise InvalidRegisters(-1)
    for index, held in enumerate(registers):
        if not may_hold(held, len(heap[1])):
            raise InvalidRegisters(index)


class Cycle:
    """A cycle of the collector. A step makes a new state; the ones before it are kept for undoing."""

    SCANNING = "whole"
    MOST_OBJECTS = 40
    MOST_REGISTERS = 6

    def __init__(self, heap, *registers, table=None):
        check_start(heap, registers)
        many = len(heap[1])
        held = held_objects(registers)
        self._table = Table() if table is None else table
        self._state = (heap, registers, ("white",) * many, ((),) * many)
        self._phase = "ready"
        # One tuple for each step that can be undone: the step, and the state and the phase before it.
        self._past = ()
        self._old = reach_from(heap, *held)
        self._begun = many

    @classmethod
    def at(cls, state, table):
        """Return a cycle in the phase "marking" with this state, any value, and no steps."""
        if not is_state(state, scanning=cls.SCANNING):
            raise InvalidState()
        heap, registers, _, _ = state
        cycle = cls(heap, *registers, table=table)
        cycle._state = state
        cycle._phase = "marking"
        return cycle

    @property
    def heap(self):
        """The present heap."""
        return self._state[0]

    @property
    def registers(self):
        """The present registers."""
        return self._state[1]

    @property
    def colors(self):
        """The present colors of the objects."""
        return self._state[2]

    @property
    def visited(self):
        """The visited fields of each object."""
        return self._state[3]

    @property
    def state(self):
        """The tuple of the heap, the registers, the colors and the visited fields."""
        return self._state

    @property
    def phase(self):
        """The phase: "ready", "marking" or "ended"."""
        return self._phase

    @property
    def steps(self):
        """The steps that were performed and not undone."""
        return tuple([step for step, _, _ in self._past])

    @property
    def scans(self):
        """The number of the steps that are scans."""
        return len([1 for step, _, _ in self._past if step[0] == "scan"])

    @property
    def reachable(self):
        """The reachable objects."""
        held = held_objects(self._state[1])
        return reach_from(self._state[0], *held)

    @property
    def old(self):
        """The objects that were reachable when the cycle was made."""
        return self._old

    @property
    def begun(self):
        """The number of objects when the cycle was made."""
        return self._begun

    @property
    def lost(self):
        """The objects that are reachable and white."""
        colors = self._state[2]
        return tuple([x for x in self.reachable if colors[x] == "white"])

    @property
    def freed(self):
        """The white objects in the phase "ended"; before it none."""
        if self._phase != "ended":
            return ()
        return tuple([x for x, color in enumerate(self._state[2]) if color == "white"])

    @property
    def table(self):
        """The table, which can be assigned in the phase "ready"."""
        return self._table

    @table.setter
    def table(self, value):
        if self._phase != "ready":
            raise Started()
        self._table = value

    def change_table(self, table):
        """Assign the table."""
        self.table = table

    def step(self, *steps):
        """Perform the steps, any values, or none of them; return which objects became grey in each."""
        state, phase = self._state, self._phase
        done = []
        told = []
        for index, step in enumerate(steps):
            reason = refusal(step, state, phase, self._table, self.SCANNING)
            if reason is not None:
                raise InvalidStep(index, reason)
            done.append((step, state, phase))
            after = state_after(step, state, self._table)
            told.append(greyed_objects(state[2], after[2]))
            state, phase = after, phase_after(step, phase)
        self._state, self._phase = state, phase
        self._past = self._past + tuple(done)
        return tuple(told)

    def why(self, step):
        """Return the reason for which the step, any value, is refused now, or None if it is possible."""
        return refusal(step, self._state, self._phase, self._table, self.SCANNING)

    def moves(self):
        """Return all steps that are possible now, in order."""
        # Cycles with threads have a method of this name, too. So neither of them can be a generator.
        return tuple(possible_steps(self._state, self._phase, self._table, self.SCANNING))

    def undo(self, count=1):
        """Take back so many steps, any value; return them, the latest one first."""
        if not is_number(count) or not 1 <= count <= len(self._past):
            raise NothingToUndo(count)
        undone = self._past[-count:]
        _, self._state, self._phase = undone[0]
        self._past = self._past[:-count]
        return tuple([step for step, _, _ in undone[::-1]])

    def twin(self):
        """Return a cycle of the same class in the same state with the same steps."""
        cycle = self.at(self._state, self._table)
        cycle._phase = self._phase
        cycle._past = self._past
        cycle._old = self._old
        cycle._begun = self._begun
        return cycle

    def trial(self):
        """Return an object for `with` that makes the cycle as it was when the block ends."""
        return Trial(self)

    def tried(self, deed):
        """Return what the deed, called with the cycle in a trial, returns."""
        with self.trial():
            return deed(self)

    def _class_name(self):
        return self.__class__.__name__

    def __contains__(self, x):
        return is_number(x) and x in self.reachable

    def __len__(self):
        return len(self._state[2])

    def __eq__(self, other):
        return (
            isinstance(other, Cycle)
            and self.SCANNING == other.SCANNING
            and self._table == other._table
            and self._phase == other._phase
            and self._state == other._state
            and self._old == other._old
            and self._begun == other._begun
            and self.steps == other.steps
        )

    def __repr__(self):
        return f"{self._class_name()}({len(self._state[2])} objects, {self._phase})"
