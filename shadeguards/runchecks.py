"""What a name or a run shows of a table, whoever told it."""

from shadeguards.countingcycles import cycle_for
from shadeguards.errors import InvalidCertificate, InvalidStep
from shadeguards.heaps import is_heap, is_registers
from shadeguards.overruns import scan_bound
from shadeguards.steps import is_step
from shadeguards.ways import check_goal, fits, ways

STEPS_AT_MOST = 400


def is_run(thing, scanning):
    """Return True if the thing, any value, is a run by its form; its steps need not be possible."""
    if not isinstance(thing, tuple) or len(thing) != 3:
        return False
    heap, registers, steps = thing
    if not is_heap(heap) or not is_registers(heap, registers):
        return False
    if not isinstance(steps, tuple) or len(steps) > STEPS_AT_MOST:
        return False
    return all([is_step(step, scanning=scanning) for step in steps])


def play(table, run, *, scanning="whole"):
    """Return a cycle that has performed the steps of the run, any value."""
    if not is_run(run, scanning):
        raise InvalidCertificate("form")
    heap, registers, steps = run
    cycle = cycle_for(scanning, heap, registers, table=table)
    try:
        cycle.step(*steps)
    except InvalidStep:
        raise InvalidCertificate("step") from None
    return cycle


def check_name(table, name, goal="safe", *, registers=2, scanning="whole"):
    """Return True if a way of the property with this name, any value, fits the table."""
    for way in ways(goal, registers=registers, scanning=scanning):
        if way[4] == name and fits(table, way):
            return True
    raise InvalidCertificate("name")


def is_shown(cycle, goal, bound):
    """Return True if what the cycle has done shows that its table does not have the property."""
    if goal == "safe":
        return len(cycle.lost) > 0
    if goal == "snapshot":
        colors = cycle.colors
        return any([colors[x] == "white" for x in cycle.old])
    return cycle.scans > bound


def check_run(table, run, goal="safe", *, registers=2, scanning="whole"):
    """Return True if the run, any value, shows that the table does not have the property, any value."""
    check_goal(goal)
    cycle = play(table, run, scanning=scanning)
    if (len(cycle.registers) == 1) != (registers == 1):
        raise InvalidCertificate("registers")
    if goal != "bounded" and cycle.phase != "ended":
        raise InvalidCertificate("end")
    if not is_shown(cycle, goal, scan_bound(run[0], scanning=scanning)):
        raise InvalidCertificate(goal)
    return True
