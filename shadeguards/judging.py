"""Verdicts: whether a table has a property, with a name or a run that shows it."""

from shadeguards.errors import InvalidCertificate
from shadeguards.freeing import freeing_run
from shadeguards.losing import losing_run
from shadeguards.overruns import overrun
from shadeguards.runchecks import check_name, check_run
from shadeguards.ways import check_goal, fits, ways


def run_against(table, goal, registers, scanning):
    """Return a run that shows that the table does not have the property."""
    if goal == "safe":
        return losing_run(table, registers=registers, scanning=scanning)
    if goal == "snapshot":
        return freeing_run(table, registers=registers, scanning=scanning)
    return overrun(table, registers=registers, scanning=scanning)


def judge(table, goal="safe", *, registers=2, scanning="whole"):
    """Return "yes" and the name of the first way that fits the table, or "no" and a run against the goal, any value."""
    for way in ways(goal, registers=registers, scanning=scanning):
        if fits(table, way):
            return ("yes", way[4])
    return ("no", run_against(table, goal, registers, scanning))


def is_verdict(thing):
    """Return True if the thing, any value, is a pair with "yes" or "no" ahead."""
    if not isinstance(thing, tuple) or len(thing) != 2:
        return False
    return isinstance(thing[0], str) and thing[0] in ("yes", "no")


def check_verdict(table, verdict, goal="safe", *, registers=2, scanning="whole"):
    """Return True if the verdict, any value, is right."""
    check_goal(goal)
    if not is_verdict(verdict):
        raise InvalidCertificate("verdict")
    word, shown = verdict
    if word == "yes":
        return check_name(table, shown, goal, registers=registers, scanning=scanning)
    return check_run(table, shown, goal, registers=registers, scanning=scanning)
