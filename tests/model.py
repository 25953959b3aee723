"""A second machine, written from points 5 to 9 in another way, to compare the package with."""

REASONS = ("register", "same", "empty", "object", "field", "color", "visited", "full", "look", "grey", "white")


class Model:
    """The machine with lists that are changed in place."""

    def __init__(self, state, phase, table, scanning):
        (self.width, objects), registers, colors, visited = state
        self.fields = [list(fields) for fields in objects]
        self.registers = list(registers)
        self.colors = list(colors)
        self.visited = [set(fields) for fields in visited]
        self.phase = phase
        self.table = table
        self.scanning = scanning

    def state(self):
        heap = (self.width, tuple(tuple(fields) for fields in self.fields))
        return heap, tuple(self.registers), tuple(self.colors), tuple(tuple(sorted(one)) for one in self.visited)

    def reasons(self, step):
        """All reasons behind "form" and "phase" that apply to a step that has the form of one."""
        kind, *numbers = step
        found = set()
        registers = {"load": numbers[:2], "store": [numbers[0], numbers[2]] if kind == "store" else [], "move": numbers,
                     "clear": numbers, "new": numbers}.get(kind, [])
        registers = [r for r in registers if r is not None]
        there = [r for r in registers if r < len(self.registers)]
        if there != registers:
            found.add("register")
        if kind == "move" and numbers[0] == numbers[1]:
            found.add("same")
        needed = {"load": numbers[1:2], "store": registers, "move": numbers[1:], "clear": numbers}.get(kind, [])
        if any(r in there and self.registers[r] is None for r in needed):
            found.add("empty")
        if kind == "scan" and numbers[0] >= len(self.fields):
            found.add("object")
        field = {"load": numbers[2:], "store": numbers[1:2], "scan": numbers[1:]}.get(kind, [])
        if any(f >= self.width for f in field):
            found.add("field")
        if kind == "scan" and numbers[0] < len(self.fields):
            if self.colors[numbers[0]] != "grey":
                found.add("color")
            if any(f in self.visited[numbers[0]] for f in field):
                found.add("visited")
        if kind == "new" and len(self.fields) == 40:
            found.add("full")
        if kind == "look" and self.table.roots == "once":
            found.add("look")
        if kind == "end" and "grey" in self.colors:
            found.add("grey")
        if kind == "end" and self.table.roots == "again":
            if any(x is not None and self.colors[x] == "white" for x in self.registers):
                found.add("white")
        return found

    def why(self, step):
        """The first reason that applies, or None, for a step that has the form of one."""
        if (step[0] == "start") != (self.phase == "ready") or self.phase == "ended":
            return "phase"
        found = self.reasons(step)
        return next((reason for reason in REASONS if reason in found), None)

    def shade(self, x):
        if x is not None and self.colors[x] == "white":
            self.colors[x] = "grey"

    def do(self, step):
        """Perform a step that is possible; tell which of the objects before it became grey."""
        before = list(self.colors)
        kind, *numbers = step
        getattr(self, kind)(*numbers)
        return tuple(x for x, color in enumerate(before) if color != "grey" and self.colors[x] == "grey")

    def start(self):
        self.look()
        self.phase = "marking"

    def look(self):
        for x in self.registers:
            self.shade(x)

    def load(self, r, s, f):
        source = self.registers[s]
        loaded = self.registers[r] = self.fields[source][f]
        if ("load", self.colors[source]) in self.table.entries:
            self.shade(loaded)

    def store(self, s, f, t):
        source = self.registers[s]
        stored = None if t is None else self.registers[t]
        held = self.fields[source][f]
        color = self.colors[source]
        self.fields[source][f] = stored
        if ("old", color) in self.table.entries:
            self.shade(held)
        if ("new", color) in self.table.entries:
            self.shade(stored)
        if ("source", color) in self.table.entries:
            self.colors[source] = "grey"
            self.visited[source] = set()

    def move(self, r, t):
        self.registers[r] = self.registers[t]

    def clear(self, r):
        self.registers[r] = None

    def new(self, r):
        self.registers[r] = len(self.fields)
        self.fields.append([None] * self.width)
        self.colors.append(self.table.fresh)
        self.visited.append(set(range(self.width)) if self.table.fresh == "black" else set())

    def scan(self, x, *field):
        for f in field or range(self.width):
            self.shade(self.fields[x][f])
            self.visited[x].add(f)
        if len(self.visited[x]) == self.width:
            self.colors[x] = "black"

    def end(self):
        self.phase = "ended"


def all_steps(scanning, slots, width, many):
    """All steps by their form with registers, fields and objects below these numbers, in the order of point 7."""
    rs, fs, xs = range(slots), range(width), range(many)
    yield ("start",)
    yield from (("load", r, s, f) for r in rs for s in rs for f in fs)
    yield from (("store", s, f, t) for s in rs for f in fs for t in [None, *rs])
    yield from (("move", r, t) for r in rs for t in rs)
    yield from (("clear", r) for r in rs)
    yield from (("new", r) for r in rs)
    if scanning == "whole":
        yield from (("scan", x) for x in xs)
    else:
        yield from (("scan", x, f) for x in xs for f in fs)
    yield ("look",)
    yield ("end",)


def start_model(table, heap, registers, scanning):
    """The machine in the phase "ready"."""
    many = len(heap[1])
    return Model((heap, registers, ("white",) * many, ((),) * many), "ready", table, scanning)


def played(table, run, scanning):
    """The machine after a run, each step of which must be possible."""
    heap, registers, steps = run
    model = start_model(table, heap, registers, scanning)
    for index, step in enumerate(steps):
        if model.why(step) is not None:
            raise AssertionError(f"step {index} of {run}: {model.why(step)}")
        model.do(step)
    return model


def reached(objects, registers):
    """The set of the reachable objects, by taking more and more of them."""
    found = {x for x in registers if x is not None}
    for _ in objects:
        found |= {held for x in found for held in objects[x] if held is not None}
    return found


def lost_objects(model):
    """The set of the objects that are reachable and white."""
    return {x for x in reached(model.fields, model.registers) if model.colors[x] == "white"}


def has(table, goal, registers, scanning):
    """Whether the table has the property, in the words of point 12, but entry by entry."""
    entries = set(table.entries)
    lit, again = table.fresh != "white", table.roots == "again"
    if goal == "snapshot":
        return ("old", "grey") in entries and bool(entries & {("load", "grey"), ("old", "white")})
    if goal == "bounded":
        if ("source", "black") in entries or scanning == "fields" and ("source", "grey") in entries:
            return False
        shading = {("load", "white"), ("old", "white"), ("new", "white"), ("source", "white")}
        alone = registers == 1 and table.fresh == "white" and not again and not entries & shading
        return table.fresh == "black" or alone
    if registers == 1:
        return lit or again
    guarded = bool(entries & {("new", "black"), ("source", "black")})
    if scanning == "fields":
        guarded = guarded and bool(entries & {("new", "grey"), ("source", "grey")})
    covered = ("load", "grey") in entries
    covered = covered or ("old", "grey") in entries and bool(entries & {("load", "white"), ("old", "white")})
    return guarded and again or covered and lit


def model_at(state, table, scanning):
    """The machine in a state in the phase "marking"."""
    return Model(state, "marking", table, scanning)


def is_bad(state, table, goal, scanning, old):
    """Whether a state is bad, as in point 48."""
    model = model_at(state, table, scanning)
    if model.why(("end",)) is not None:
        return False
    return bool(lost_objects(model)) if goal == "safe" else any(model.colors[x] == "white" for x in old)


def further(state, table, scanning, most):
    """The steps that lead to states, in order, with these; `most` tells with how many objects none is made."""
    slots, width, many = len(state[1]), state[0][0], len(state[2])
    for step in all_steps(scanning, slots, width, many):
        if step[0] in ("start", "end") or step[0] == "new" and many >= most:
            continue
        model = model_at(state, table, scanning)
        if model.why(step) is None:
            model.do(step)
            yield step, model.state()


def met_states(table, heap, registers, scanning, extra, cap):
    """The states of point 48 in their order, whether they are bad or not, each with its steps: up to so many of them."""
    model = start_model(table, heap, registers, scanning)
    model.do(("start",))
    return met_behind({model.state(): (("start",),)}, table, scanning, len(heap[1]) + extra, cap)


def met_behind(paths, table, scanning, most, cap):
    """These states and those to which their steps lead, in order, each with its steps: up to so many of them."""
    at = 0
    order = list(paths)
    while at < len(order):
        state = order[at]
        at += 1
        for step, after in further(state, table, scanning, most):
            if after not in paths:
                if len(paths) == cap:
                    return paths
                paths[after] = paths[state] + (step,)
                order.append(after)
    return paths
