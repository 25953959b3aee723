"""Cycles with threads, each of which is looked at by itself."""

from shadeguards.checks import is_number
from shadeguards.effects import greyed_objects, phase_after
from shadeguards.errors import InvalidHeap, InvalidState, InvalidStep, InvalidThreads, Mismatch, NothingToUndo
from shadeguards.heaps import is_heap
from shadeguards.reaching import held_objects, reach_from
from shadeguards.tables import Table
from shadeguards.threadmoves import possible_thread_steps, state_after_thread_step, thread_refusal
from shadeguards.threadsteps import are_so_many_threads, is_thread, is_thread_state
from shadeguards.trials import ThreadTrial


def check_threads_of(heap, threads):
    """Raise the error for a heap and threads, any values, with which no cycle starts."""
    if not is_heap(heap):
        raise InvalidHeap()
    if not are_so_many_threads(threads):
        raise InvalidThreads(-1)
    for index, registers in enumerate(threads):
        if not is_thread(heap, registers):
            raise InvalidThreads(index)


def reachable_objects(state):
    """Return the objects that are reachable from the registers of all threads."""
    held = [x for registers in state[1] for x in held_objects(registers)]
    return reach_from(state[0], *held)


class ThreadCycle:
    """A cycle with threads. A step makes a new state; the ones before it are kept for undoing."""

    MOST_THREADS = 4
    MOST_REGISTERS = 3
    MOST_OBJECTS = 40

    def __init__(self, heap, threads, *, early=None, late=None, scanning="whole"):
        check_threads_of(heap, threads)
        self._early = Table() if early is None else early
        self._late = Table() if late is None else late
        if self._early.roots != self._late.roots:
            raise Mismatch()
        many = len(heap[1])
        self._scanning = scanning
        self._state = (heap, threads, ("white",) * many, ((),) * many, (False,) * len(threads))
        self._phase = "ready"
        # One tuple for each step that can be undone: the step, and the state and the phase before it.
        self._past = ()
        self._old = reachable_objects(self._state)
        self._begun = many

    @classmethod
    def at(cls, state, early, late, *, scanning="whole"):
        """Return a cycle in the phase "marking" with this state of threads, any value, and no steps."""
        if not is_thread_state(state, scanning=scanning):
            raise InvalidState()
        heap, threads, _, _, _ = state
        cycle = cls(heap, threads, early=early, late=late, scanning=scanning)
        cycle._state = state
        cycle._phase = "marking"
        return cycle

    @property
    def heap(self):
        """The present heap."""
        return self._state[0]

    @property
    def threads(self):
        """The present registers of each thread."""
        return self._state[1]

    @property
    def colors(self):
        """The present colors of the objects."""
        return self._state[2]

    @property
    def visited(self):
        """The visited fields of each object."""
        return self._state[3]

    @property
    def looked(self):
        """For each thread whether it is late."""
        return self._state[4]

    @property
    def state(self):
        """The tuple of the heap, the threads, the colors, the visited fields and which threads are late."""
        return self._state

    @property
    def early(self):
        """The table for the steps of early threads."""
        return self._early

    @property
    def late(self):
        """The table for the steps of late threads."""
        return self._late

    @property
    def scanning(self):
        """The scanning: "whole" or "fields"."""
        return self._scanning

    @property
    def phase(self):
        """The phase: "ready", "marking" or "ended"."""
        return self._phase

    @property
    def steps(self):
        """The steps that were performed and not undone."""
        return tuple([step for step, _, _ in self._past])

    @property
    def scans(self):
        """The number of the steps that are scans."""
        return len([1 for step, _, _ in self._past if step[0] == "scan"])

    @property
    def old(self):
        """The objects that were reachable when the cycle was made."""
        return self._old

    @property
    def begun(self):
        """The number of objects when the cycle was made."""
        return self._begun

    @property
    def reachable(self):
        """The reachable objects."""
        return reachable_objects(self._state)

    @property
    def lost(self):
        """The objects that are reachable and white."""
        colors = self._state[2]
        return tuple([x for x in self.reachable if colors[x] == "white"])

    @property
    def freed(self):
        """The white objects in the phase "ended"; before it none."""
        if self._phase != "ended":
            return ()
        return tuple([x for x, color in enumerate(self._state[2]) if color == "white"])

    def step(self, *steps):
        """Perform the steps, any values, or none of them; return which objects became grey in each."""
        state, phase = self._state, self._phase
        done = []
        told = []
        for index, step in enumerate(steps):
            reason = thread_refusal(step, state, phase, self._early.roots, self._scanning)
            if reason is not None:
                raise InvalidStep(index, reason)
            done.append((step, state, phase))
            after = state_after_thread_step(step, state, self._early, self._late)
            told.append(greyed_objects(state[2], after[2]))
            state, phase = after, phase_after(step, phase)
        self._state, self._phase = state, phase
        self._past = self._past + tuple(done)
        return tuple(told)

    def why(self, step):
        """Return the reason for which the thread step, any value, is refused now, or None if it is possible."""
        return thread_refusal(step, self._state, self._phase, self._early.roots, self._scanning)

    def moves(self):
        """Return all thread steps that are possible now, in order."""
        return tuple(possible_thread_steps(self._state, self._phase, self._early.roots, self._scanning))

    def undo(self, count=1):
        """Take back so many steps, any value; return them, the latest one first."""
        if not is_number(count) or not 1 <= count <= len(self._past):
            raise NothingToUndo(count)
        undone = self._past[-count:]
        _, self._state, self._phase = undone[0]
        self._past = self._past[:-count]
        return tuple([step for step, _, _ in undone[::-1]])

    def twin(self):
        """Return a cycle in the same state with the same steps."""
        cycle = self.at(self._state, self._early, self._late, scanning=self._scanning)
        cycle._phase = self._phase
        cycle._past = self._past
        cycle._old = self._old
        cycle._begun = self._begun
        return cycle

    def tried(self, deed):
        """Return what the deed, called with the cycle, returns; then the cycle is as before."""
        with ThreadTrial(self):
            return deed(self)

    def __contains__(self, x):
        return is_number(x) and x in self.reachable

    def __len__(self):
        return len(self._state[2])

    def __eq__(self, other):
        return (
            isinstance(other, ThreadCycle)
            and self._scanning == other._scanning
            and self._early == other._early
            and self._late == other._late
            and self._phase == other._phase
            and self._state == other._state
            and self._old == other._old
            and self._begun == other._begun
            and self.steps == other.steps
        )

    def __repr__(self):
        return f"ThreadCycle({len(self._state[2])} objects, {len(self._state[1])} threads, {self._phase})"
