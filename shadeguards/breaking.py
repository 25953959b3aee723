"""States in which one step breaks an invariant that a table does not keep."""

from shadeguards.cycles import Cycle
from shadeguards.errors import InvalidCertificate
from shadeguards.fieldcycles import FieldCycle
from shadeguards.invariants import holds
from shadeguards.needs import check_kept_invariant, missing_needs
from shadeguards.states import is_state

# For the first alternative of a need: a state with one register, and the step that breaks each invariant with this need
# if the table does not meet it, whatever else the table has.
ONE_REGISTER = {
    ("fresh", "grey"): (((1, ()), (None,), (), ()), ("new", 0)),
    ("load", "grey"): (
        ((1, ((1,), (None,))), (0,), ("grey", "white"), ((), ())),
        ("load", 0, 0, 0),
    ),
    ("load", "white"): (
        ((1, ((1,), (2,), (None,))), (1,), ("grey", "white", "white"), ((), (), ())),
        ("load", 0, 0, 0),
    ),
    ("old", "white"): (
        ((1, ((1,), (2,), (None,), (2,))), (1,), ("grey", "white", "white", "black"), ((), (), (), (0,))),
        ("store", 0, 0, None),
    ),
    ("old", "grey"): (
        ((1, ((1,), (None,), (1,))), (0,), ("grey", "white", "black"), ((), (), (0,))),
        ("store", 0, 0, None),
    ),
}
# The same with two registers. No visited field holds a white object here, and each one in a register has a white path,
# so that the states serve "strong" and "thread", too.
TWO_REGISTERS = {
    ("fresh", "grey"): (((1, ()), (None, None), (), ()), ("new", 0)),
    ("load", "grey"): (
        ((1, ((1,), (None,))), (0, None), ("grey", "white"), ((), ())),
        ("load", 1, 0, 0),
    ),
    ("load", "white"): (
        ((1, ((1,), (2,), (None,))), (1, None), ("grey", "white", "white"), ((), (), ())),
        ("load", 1, 0, 0),
    ),
    ("old", "white"): (
        ((1, ((1,), (2,), (None,))), (1, 2), ("grey", "white", "white"), ((), (), ())),
        ("store", 0, 0, None),
    ),
    ("old", "grey"): (
        ((1, ((1,), (None,))), (0, 1), ("grey", "white"), ((), ())),
        ("store", 0, 0, None),
    ),
    ("new", "grey"): (
        ((2, ((None, 1), (None, None))), (0, 1), ("grey", "white"), ((0,), ())),
        ("store", 0, 0, 1),
    ),
    ("new", "black"): (
        ((1, ((None,), (None,), (1,))), (0, 1), ("black", "white", "grey"), ((0,), (), ())),
        ("store", 0, 0, 1),
    ),
}


def breaking(table, name, *, registers=2, scanning="whole"):
    """Return a state and a step that breaks the invariant with this name, any value, or None if the table keeps it."""
    missing = missing_needs(table, name, registers=registers, scanning=scanning)
    if len(missing) == 0:
        return None
    lacking = missing[0][0]
    return ONE_REGISTER[lacking] if registers == 1 else TWO_REGISTERS[lacking]


def cycle_at(state, table, scanning):
    """Return the cycle of this scanning at a state."""
    return FieldCycle.at(state, table) if scanning == "fields" else Cycle.at(state, table)


def check_breaking(table, name, value, *, scanning="whole"):
    """Return True if the value, any value, is a state and a step that breaks the invariant, by its name, any value."""
    check_kept_invariant(name)
    if not isinstance(value, tuple) or len(value) != 2:
        raise InvalidCertificate("form")
    state, step = value
    if not is_state(state, scanning=scanning):
        raise InvalidCertificate("state")
    cycle = cycle_at(state, table, scanning)
    if not holds(cycle, name):
        raise InvalidCertificate("before")
    if cycle.why(step) is not None:
        raise InvalidCertificate("step")
    cycle.step(step)
    if holds(cycle, name):
        raise InvalidCertificate("after")
    return True
