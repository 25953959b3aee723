"""Runs of the machine that are made for a number of registers and a scanning."""


def step_of(step, scanning):
    """Return the step of this scanning; a scan without a field becomes one of the field 0."""
    if scanning == "fields" and step[0] == "scan" and len(step) == 2:
        return step + (0,)
    return step


def run_of(heap, steps, registers, scanning):
    """Return the run of these steps over the heap; the first register holds the object 0, if there is one."""
    held = None if len(heap[1]) == 0 else 0
    slots = (held,) if registers == 1 else (held, None)
    return (heap, slots, tuple([step_of(step, scanning) for step in steps]))
