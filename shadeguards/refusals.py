"""Why a step is refused."""

from shadeguards.heaps import OBJECTS_AT_MOST
from shadeguards.steps import is_step, named_field, named_registers, needed_registers


def program_refusal(step, state):
    """Return the first reason that applies to a step of the program, or None."""
    heap, registers, _, _ = state
    width, objects = heap
    if any([r >= len(registers) for r in named_registers(step)]):
        return "register"
    if step[0] == "move" and step[1] == step[2]:
        return "same"
    if any([registers[r] is None for r in needed_registers(step)]):
        return "empty"
    field = named_field(step)
    if field is not None and field >= width:
        return "field"
    if step[0] == "new" and len(objects) >= OBJECTS_AT_MOST:
        return "full"
    return None


def scan_refusal(step, state):
    """Return the first reason that applies to a scan, or None."""
    heap, _, colors, visited = state
    width, objects = heap
    x = step[1]
    field = named_field(step)
    if x >= len(objects):
        return "object"
    if field is not None and field >= width:
        return "field"
    if colors[x] != "grey":
        return "color"
    if field in visited[x]:
        return "visited"
    return None


def end_refusal(state, table):
    """Return the first reason that applies to an end, or None."""
    _, registers, colors, _ = state
    if "grey" in colors:
        return "grey"
    if table.roots == "again" and any([x is not None and colors[x] == "white" for x in registers]):
        return "white"
    return None


def refusal(step, state, phase, table, scanning):
    """Return the first reason for which the step, any value, is refused, or None if it is possible."""
    if not is_step(step, scanning=scanning):
        return "form"
    kind = step[0]
    if phase != ("ready" if kind == "start" else "marking"):
        return "phase"
    if kind == "scan":
        return scan_refusal(step, state)
    if kind == "look":
        return "look" if table.roots == "once" else None
    if kind == "end":
        return end_refusal(state, table)
    return program_refusal(step, state)
