"""Trials: what is done to a cycle in a block is taken back when the block ends."""


class Trial:
    """An object for `with` that keeps what a cycle was before the block."""

    def __init__(self, cycle):
        self._cycle = cycle

    def __enter__(self):
        cycle = self._cycle
        self._table = cycle._table
        self._state = cycle._state
        self._phase = cycle._phase
        self._past = cycle._past
        return cycle

    def __exit__(self, kind, value, trace):
        cycle = self._cycle
        cycle._table = self._table
        cycle._state = self._state
        cycle._phase = self._phase
        cycle._past = self._past


class ThreadTrial:
    """An object for `with` that keeps what a cycle with threads was before the block. Its tables never change."""

    def __init__(self, cycle):
        self._cycle = cycle

    def __enter__(self):
        cycle = self._cycle
        self._state = cycle._state
        self._phase = cycle._phase
        self._past = cycle._past
        return cycle

    def __exit__(self, kind, value, trace):
        cycle = self._cycle
        cycle._state = self._state
        cycle._phase = self._phase
        cycle._past = self._past
