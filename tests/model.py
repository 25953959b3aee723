"""A second machine, written from points 5 to 9 in another way, to compare the package with."""

REASONS = ("register", "same", "empty", "object", "field", "color", "visited", "full", "look", "grey", "white")


class Model:
    """The machine with lists that are changed in place."""

    def __init__(self, state, phase, table, scanning):
        (self.width, objects), registers, colors, visited = state
        self.fields = [list(fields) for fields in objects]
        self.registers = list(registers)
        self.colors = list(colors)
        self.visited = [set(fields) for fields in visited]
        self.phase = phase
        self.table = table
        self.scanning = scanning

    def state(self):
        heap = (self.width, tuple(tuple(fields) for fields in self.fields))
        return heap, tuple(self.registers), tuple(self.colors), tuple(tuple(sorted(one)) for one in self.visited)

    def reasons(self, step):
        """All reasons behind "form" and "phase" that apply to a step that has the form of one."""
        kind, *numbers = step
        found = set()
        registers = {"load": numbers[:2], "store": [numbers[0], numbers[2]] if kind == "store" else [], "move": numbers,
                     "clear": numbers, "new": numbers}.get(kind, [])
        registers = [r for r in registers if r is not None]
        there = [r for r in registers if r < len(self.registers)]
        if there != registers:
            found.add("register")
        if kind == "move" and numbers[0] == numbers[1]:
            found.add("same")
        needed = {"load": numbers[1:2], "store": registers, "move": numbers[1:], "clear": numbers}.get(kind, [])
        if any(r in there and self.registers[r] is None for r in needed):
            found.add("empty")
        if kind == "scan" and numbers[0] >= len(self.fields):
            found.add("object")
        field = {"load": numbers[2:], "store": numbers[1:2], "scan": numbers[1:]}.get(kind, [])
        if any(f >= self.width for f in field):
            found.add("field")
        if kind == "scan" and numbers[0] < len(self.fields):
            if self.colors[numbers[0]] != "grey":
                found.add("color")
            if any(f in self.visited[numbers[0]] for f in field):
                found.add("visited")
        if kind == "new" and len(self.fields) == 40:
            found.add("full")
        if kind == "look" and self.table.roots == "once":
            found.add("look")
        if kind == "end" and "grey" in self.colors:
            found.add("grey")
        if kind == "end" and self.table.roots == "again":
            if any(x is not None and self.colors[x] == "white" for x in self.registers):
                found.add("white")
        return found

    def why(self, step):
        """The first reason that applies, or None, for a step that has the form of one."""
        if (step[0] == "start") != (self.phase == "ready") or self.phase == "ended":
            return "phase"
        found = self.reasons(step)
        return next((reason for reason in REASONS if reason in found), None)

    def shade(self, x):
        if x is not None and self.colors[x] == "white":
            self.colors[x] = "grey"

    def do(self, step):
        """Perform a step that is possible; tell which of the objects before it became grey."""
        before = list(self.colors)
        kind, *numbers = step
        getattr(self, kind)(*numbers)
        return tuple(x for x, color in enumerate(before) if color != "grey" and self.colors[x] == "grey")

    def start(self):
        self.look()
        self.phase = "marking"

    def look(self):
        for x in self.registers:
            self.shade(x)

    def load(self, r, s, f):
        source = self.registers[s]
        loaded = self.registers[r] = self.fields[source][f]
        if ("load", self.colors[source]) in self.table.entries:
            self.shade(loaded)

    def store(self, s, f, t):
        source = self.registers[s]
        stored = None if t is None else self.registers[t]
        held = self.fields[source][f]
        color = self.colors[source]
        self.fields[source][f] = stored
        if ("old", color) in self.table.entries:
            self.shade(held)
        if ("new", color) in self.table.entries:
            self.shade(stored)
        if ("source", color) in self.table.entries:
            self.colors[source] = "grey"
            self.visited[source] = set()

    def move(self, r, t):
        self.registers[r] = self.registers[t]

    def clear(self, r):
        self.registers[r] = None

    def new(self, r):
        self.registers[r] = len(self.fields)
        self.fields.append([None] * self.width)
        self.colors.append(self.table.fresh)
        self.visited.append(set(range(self.width)) if self.table.fresh == "black" else set())

    def scan(self, x, *field):
        for f in field or range(self.width):
            self.shade(self.fields[x][f])
            self.visited[x].add(f)
        if len(self.visited[x]) == self.width:
            self.colors[x] = "black"

    def end(self):
        self.phase = "ended"


def all_steps(scanning, slots, width, many):
    """All steps by their form with registers, fields and objects below these numbers, in the order of point 7."""
    rs, fs, xs = range(slots), range(width), range(many)
    yield ("start",)
    yield from (("load", r, s, f) for r in rs for s in rs for f in fs)
    yield from (("store", s, f, t) for s in rs for f in fs for t in [None, *rs])
    yield from (("move", r, t) for r in rs for t in rs)
    yield from (("clear", r) for r in rs)
    yield from (("new", r) for r in rs)
    if scanning == "whole":
        yield from (("scan", x) for x in xs)
    else:
        yield from (("scan", x, f) for x in xs for f in fs)
    yield ("look",)
    yield ("end",)
