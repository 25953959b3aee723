"""Scheduled cycles: what is left when a program and the collector are through."""

from shadeguards.scheduling import schedule


def collect(cycle, *program, pace=1):
    """Perform the schedule of the program, any values, or nothing of it; return the objects that are freed."""
    steps = list(schedule(cycle, *program, pace=pace))
    cycle.step(*steps)
    return cycle.freed


def survivors(cycle):
    """Return the objects that are not freed."""
    freed = cycle.freed
    return tuple([x for x in range(len(cycle)) if x not in freed])


def floating(cycle):
    """Return the objects that are neither reachable nor freed."""
    reachable = cycle.reachable
    return tuple([x for x in survivors(cycle) if x not in reachable])
