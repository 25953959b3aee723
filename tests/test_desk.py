"""Points 71 to 75: a desk."""

import unittest

from shadeguards.collecting import collect
from shadeguards.counts import count_tables
from shadeguards.desk import Desk
from shadeguards.errors import InvalidCertificate, InvalidStep, NoInvariant, NothingToUndo, ParseError, Started, UnknownCommand
from shadeguards.invariants import INVARIANTS, holds, offender
from shadeguards.judging import judge
from shadeguards.losing import least_length
from shadeguards.repairs import repairs
from shadeguards.runchecks import check_name
from shadeguards.tables import Table
from tests.textmodel import NUMBER, due_for, wrong_word
from tests.values import ANY, CLASSES, GOALS, chances, frozen, nearby, some_heap, some_registers, some_table, wander

TELLING = ("show", "heap", "registers", "phase", "colors", "reachable", "lost", "freed", "old", "scans", "steps", "moves")
NAMES = ("table", "begin", "step", "undo", "collect", *TELLING, "why", "holds", "judge", "check", "least", "repairs", "count")
SCANNINGS = ("whole", "fields")
WAY_NAMES = ("strong", "registers", "held", "paths", "thread", "screened", "snapshot", "single")


def written(thing):
    """The written form of a step, of a change, of registers, of a heap: written anew."""
    if type(thing) is tuple and len(thing) == 2 and type(thing[1]) is tuple and type(thing[0]) is int:
        objects = [",".join("-" if x is None else str(x) for x in fields) for fields in thing[1]]
        return " ".join([f"{thing[0]}:", *(objects or ["none"])])
    words = []
    for part in thing:
        words.append("-".join(part) if type(part) is tuple else "-" if part is None else str(part))
    return " ".join(words)


def listed(numbers):
    return " ".join(map(str, numbers)) or "-"


def written_run(run):
    return "\n".join([written(run[0]), written(run[1]), *map(written, run[2])])


def told(desk):
    """All that a desk tells of its cycle."""
    return [desk.execute(command) for command in TELLING]


def expected(cycle):
    """What a desk with this cycle tells of it."""
    return [
        str(cycle.table), written(cycle.heap), written(cycle.registers), cycle.phase, " ".join(cycle.colors) or "-",
        listed(cycle.reachable), listed(cycle.lost), listed(cycle.freed), listed(cycle.old), str(cycle.scans),
        ", ".join(map(written, cycle.steps)) or "none", ", ".join(map(written, cycle.moves())) or "none",
    ]


def begun(scanning, heap, registers, table=None):
    """A desk, and a cycle like its own."""
    desk = Desk(scanning=scanning)
    if table is not None:
        desk.execute(f"table {table}")
    desk.execute(f"begin {written(heap)} / {written(registers)}")
    return desk, CLASSES[scanning](heap, *registers, table=table)


def some_desk(chance, steps):
    """A desk after some steps, and a cycle like its own."""
    scanning = chance.choice(SCANNINGS)
    heap = some_heap(chance, most=4, width=chance.randint(1, 2))
    desk, cycle = begun(scanning, heap, some_registers(chance, heap, chance.randint(1, 3)), some_table(chance))
    for step, greyed in wander(chance, cycle, steps):
        if desk.execute("step " + written(step)) != listed(greyed[0]):
            raise AssertionError(step)
    return desk, cycle


def phases(scanning):
    """Desks in each phase, each with a cycle like its own."""
    heap = (1, ((1,), (2,), (None,), (None,)))
    scan = ("scan", 0) if scanning == "whole" else ("scan", 0, 0)
    for roots in ("once", "again"):
        for steps in ([], [("start",)], [("start",), ("load", 1, 0, 0), ("store", 0, 0, None)], [("start",), ("clear", 0), scan, ("end",)]):
            desk, cycle = begun(scanning, heap, (0, None), Table(("old", "grey"), roots=roots))
            if steps and steps[-1] == ("end",):
                desk.execute("step start")
                desk.execute("collect 1")
                cycle.step(("start",))
                collect(cycle)
            else:
                for step in steps:
                    desk.execute("step " + written(step))
                    cycle.step(step)
            yield desk, cycle


class Telling(unittest.TestCase):
    def test_a_fresh_desk(self):
        for desk, scanning in [(Desk(), "whole"), (Desk(scanning="whole"), "whole"), (Desk(scanning="fields"), "fields")]:
            cycle = CLASSES[scanning]((1, ()), None)
            self.assertEqual(told(desk), expected(cycle))
            self.assertEqual(told(desk), ["black once: -", "1: none", "-", "ready", "-", "-", "-", "-", "-", "0", "none", "start"])
            self.assertEqual([desk.execute(command=command) for command in TELLING], told(desk))
            self.assertEqual(desk.execute("step start"), "-")
            self.assertEqual(desk.execute("step new 0"), "-")
            self.assertEqual(desk.execute("why scan 0" + " 0" * (scanning == "fields")), "color")

    def test_all_phases(self):
        for scanning in SCANNINGS:
            seen = set()
            for desk, cycle in phases(scanning):
                self.assertEqual(told(desk), expected(cycle))
                self.assertEqual(told(desk), expected(cycle))
                seen.add(cycle.phase)
            self.assertEqual(seen, {"ready", "marking", "ended"})

    def test_words(self):
        desk, _ = begun("whole", (2, ((1, None), (None, None), (None, 0))), (0, None))
        self.assertEqual(told(desk), ["black once: -", "2: 1,- -,- -,0", "0 -", "ready", "white white white", "0 1", "0 1", "-", "0 1", "0",
                                      "none", "start"])
        desk.execute("step start")
        self.assertEqual([desk.execute("step clear 0"), desk.execute("step scan 0"), desk.execute("step scan 1")], ["-", "1", "-"])
        self.assertEqual(desk.execute("moves"), "new 0, new 1, end")
        desk.execute("step end")
        self.assertEqual(told(desk), ["black once: -", "2: 1,- -,- -,0", "- -", "ended", "black black white", "-", "-", "2", "0 1", "2",
                                      "start, clear 0, scan 0, scan 1, end", "none"])

    def test_why(self):
        for scanning in SCANNINGS:
            for desk, cycle in phases(scanning):
                before, seen = told(desk), set()
                for step in nearby(cycle):
                    answer = desk.execute("why " + written(step))
                    self.assertEqual(answer, cycle.why(step) or "possible")
                    seen.add(answer)
                self.assertEqual(told(desk), before)
                self.assertIn("phase", seen)

    def test_holds(self):
        answers = set()
        for chance in chances(100, 130):
            desk, cycle = some_desk(chance, chance.choice((0, 4, 12, 30)))
            before = told(desk)
            for name in INVARIANTS:
                place = offender(cycle, name)
                answer = desk.execute("holds " + name)
                self.assertEqual(answer, "yes" if place is None else "no " + " ".join(map(str, place)))
                self.assertIs(answer == "yes", holds(cycle, name))
                answers.add(answer.split(" ")[:2][-1])
            for name in ("x", "strongs", "safe", "single", "a" * 4000):
                with self.assertRaises(NoInvariant) as caught:
                    desk.execute("holds " + name)
                self.assertEqual(caught.exception.name, name)
            self.assertEqual(told(desk), before)
        self.assertLessEqual({"yes", "register", "object"}, answers)

    def test_holds_as_it_is_written(self):
        desk, _ = begun("whole", (1, ((1,), (2,), (None,))), (0, None))
        desk.execute("step start")
        desk.execute("step load 1 0 0")
        self.assertEqual([desk.execute("holds registers"), desk.execute("holds held")], ["no register 1", "yes"])
        desk.execute("step store 0 0 -")
        desk.execute("step scan 0")
        desk.execute("step store 0 0 1")
        self.assertEqual([desk.execute("holds strong"), desk.execute("holds snapshot")], ["no field 0 0", "no object 1"])


class TellingOfTheTable(unittest.TestCase):
    TABLES = [Table(), Table(("old", "grey")), Table(("load", "grey")), Table(("old", "grey"), ("load", "white"), fresh="grey"),
              Table(("source", "black"), fresh="white", roots="again"), Table.full(fresh="white"), Table(fresh="white"), Table(roots="again")]

    def test_beside_the_functions(self):
        for scanning in SCANNINGS:
            for table in self.TABLES:
                desk = Desk(scanning=scanning)
                self.assertEqual(desk.execute(f"table {table}"), "ok")
                for many in (1, 2, 3, 6, 10 ** 29):
                    self.check(desk, table, scanning, many)

    def test_in_all_phases(self):
        for scanning in SCANNINGS:
            for desk, cycle in phases(scanning):
                for many in (1, 2):
                    self.check(desk, cycle.table, scanning, many)

    def check(self, desk, table, scanning, many):
        before, words = told(desk), {"registers": many, "scanning": scanning}
        for goal in GOALS:
            word, shown = judge(table, goal, **words)
            answer = desk.execute(f"judge {goal} {many}")
            self.assertEqual(answer, f"yes {shown}" if word == "yes" else "no: " + written_run(shown).replace("\n", " / "))
            texts = [", ".join(map(written, changes)) or "-" for changes in repairs(table, goal, **words)]
            self.assertEqual(desk.execute(f"repairs {goal} {many}"), "; ".join(texts))
            self.assertEqual(desk.execute(f"count {goal} {many}"), str(count_tables(goal, **words)))
            for name in WAY_NAMES:
                self.check_name(desk, table, goal, many, name, words)
        length = least_length(table, registers=many)
        self.assertEqual(desk.execute(f"least {many}"), "-" if length is None else str(length))
        self.assertEqual(told(desk), before)

    def check_name(self, desk, table, goal, many, name, words):
        try:
            check_name(table, name, goal, **words)
        except InvalidCertificate as error:
            with self.assertRaises(InvalidCertificate) as caught:
                desk.execute(f"check {goal} {many} {name}")
            self.assertEqual((caught.exception.reason, error.reason), ("name", "name"))
        else:
            self.assertEqual(desk.execute(f"check {goal} {many} {name}"), "ok")

    def test_count(self):
        self.assertEqual([Desk().execute(f"count {goal} 2") for goal in GOALS], ["16256", "9216", "4096"])
        self.assertEqual([Desk(scanning="fields").execute(f"count {goal} 1") for goal in GOALS], ["20480", "9216", "2112"])

    def test_as_they_are_written(self):
        desk = Desk()
        self.assertEqual(desk.execute("least 2"), "5")
        self.assertEqual(desk.execute("repairs bounded 1"), "-")
        desk.execute("table white once: source-black")
        self.assertEqual(desk.execute("repairs bounded 2"), "remove source-black, fresh black")
        self.assertEqual(desk.execute("judge safe 1"), "no: 1: none / - / start / new 0 / end")
        desk.execute("table black once: load-grey")
        self.assertEqual([desk.execute("judge safe 2"), desk.execute("least 2"), desk.execute("check safe 2 registers")],
                         ["yes registers", "-", "ok"])


class Changing(unittest.TestCase):
    def test_table(self):
        for scanning in SCANNINGS:
            for table in (Table(), Table.full(fresh="white", roots="again"), Table(("old", "grey"))):
                for desk, cycle in phases(scanning):
                    if cycle.phase == "ready":
                        self.assertEqual(desk.execute(f"table {table}"), "ok")
                        cycle.table = table
                    else:
                        with self.assertRaises(Started):
                            desk.execute(f"table {table}")
                    self.assertEqual(told(desk), expected(cycle))

    def test_begin(self):
        for scanning in SCANNINGS:
            for heap, registers in [((1, ()), (None,)), ((4, ((None,) * 4,) * 40), (39, 0, None, 5, 5, 1)), ((2, ((1, 0), (None, 1))), (1, None))]:
                for desk, cycle in phases(scanning):
                    self.assertEqual(desk.execute(f"begin {written(heap)} / {written(registers)}"), "ok")
                    self.assertEqual(told(desk), expected(CLASSES[scanning](heap, *registers, table=cycle.table)))
                    with self.assertRaises(NothingToUndo):
                        desk.execute("undo")

    def test_step_and_undo(self):
        for chance in chances(60, 131):
            desk, cycle = some_desk(chance, 15)
            self.assertEqual(told(desk), expected(cycle))
            while cycle.steps:
                many = chance.randint(1, len(cycle.steps))
                if chance.random() < 0.3:
                    many, command = 1, "undo"
                else:
                    command = f"undo {many}"
                self.assertEqual(desk.execute(command), ", ".join(map(written, cycle.undo(many))))
                self.assertEqual(told(desk), expected(cycle))
            for command, count in [("undo", 1), ("undo 1", 1), ("undo 7", 7), ("undo " + "9" * 30, 10 ** 30 - 1)]:
                with self.assertRaises(NothingToUndo) as caught:
                    desk.execute(command)
                self.assertEqual(caught.exception.count, count)
                self.assertEqual(told(desk), expected(cycle))

    def test_refused_steps(self):
        for scanning in SCANNINGS:
            for desk, cycle in phases(scanning):
                before = told(desk)
                for step in nearby(cycle):
                    reason = cycle.why(step)
                    if reason is not None:
                        with self.assertRaises(InvalidStep) as caught:
                            desk.execute("step " + written(step))
                        self.assertEqual((caught.exception.index, caught.exception.reason), (0, reason))
                self.assertEqual(told(desk), before)

    def test_collect(self):
        for scanning in SCANNINGS:
            for pace in (1, 2, 99, 100):
                for desk, cycle in phases(scanning):
                    if cycle.phase == "ended":
                        with self.assertRaises(InvalidStep) as caught:
                            desk.execute(f"collect {pace}")
                        self.assertEqual((caught.exception.index, caught.exception.reason), (-1, "phase"))
                    else:
                        self.assertEqual(desk.execute(f"collect {pace}"), listed(collect(cycle, pace=pace)))
                        self.assertEqual(cycle.phase, "ended")
                    self.assertEqual(told(desk), expected(cycle))

    def test_the_scanning_stays(self):
        desk = Desk(scanning="fields")
        desk.execute("begin 2: -,- / 0")
        self.assertEqual([desk.execute("step start"), desk.execute("step scan 0 1"), desk.execute("colors")], ["0", "-", "grey"])
        desk = Desk()
        desk.execute("begin 2: -,- / 0")
        self.assertEqual([desk.execute("step start"), desk.execute("step scan 0"), desk.execute("colors")], ["0", "-", "black"])

    def test_two_desks_share_nothing(self):
        one, other = Desk(), Desk()
        one.execute("table white again: old-grey")
        one.execute("begin 1: - / 0")
        self.assertEqual(told(other), told(Desk()))


UNKNOWN = [
    "", " ", "-", "Show", "shows", "show ", " show", "show\n", "show 1", "show -", "start", "load 1 0 0", "read", "tables", "help", "moves ",
    "phase phase", "heap 1", "registers 0", "colors ", "reachable 0", "lost  ", "freed x", "old old", "scans 1", "steps 2", "moves 0",
    "table", "begin", "begin ", "begin 1:", "begin 1: none", "begin / 0", "begin x y", "step", "why", "step load 1 0 0 0", "why store 0 0 - -",
    "step end end end end end", "undo 1 2", "undo 1 ", "undo  ", "collect", "collect 1 2", "collect 1 ", "holds", "holds strong held",
    "holds strong ", "judge", "judge safe", "judge safe 2 2", "judge safe 2 ", "check", "check safe 2", "check safe", "check safe 2 held held",
    "check safe 2 held ", "least", "least 2 2", "least 2 ", "repairs", "repairs safe", "repairs safe 2 2", "count", "count safe", "count safe 2 x",
    "show\nheap", "execute show", "step\nstart", "undo\n1", "SHOW", "show\t", "\nshow",
]
WRONG = [
    # Tables.
    ("table ", 1), ("table red", 1), ("table black", 2), ("table black once", 2), ("table black once:", 3), ("table black once: - ", 3),
    ("table black once: -\n", 3), ("table  black once: -", 1), ("table black once: old-grey load-white", 4), ("table black once: old-grey -", 4),
    ("table black once: -\nx", 3), ("table black once:\n-", 2), ("table -", 1), ("table black once: old-grey ", 4), ("table / 0", 1),
    # Heaps and registers.
    ("begin / 0 -", 1), ("begin / / /", 1), ("begin 1: / 0", 2), ("begin 1: none /", 4), ("begin 1: none / ", 4), ("begin 1: none  /", 2),
    ("begin 1: 1 - 0 -", 6), ("begin 1: none 0 -", 2), ("begin 1: - -", 4), ("begin 5: none / -", 1), ("begin  1: none / -", 1),
    ("begin 1: none / 0", 4), ("begin 1: - / 1", 4), ("begin 1: 1 / 0", 2), ("begin 1: 1 / 0 0 0", 2), ("begin 1: none / - /", 5),
    ("begin 1: none / / -", 4), ("begin 1: none / - / -", 5), ("begin 1: none / - - - - - - -", 10), ("begin 1: - / 0 1 x", 5),
    ("begin 2: - / 0", 2), ("begin 1: none\n/ - -", 2), ("begin 1: none / -\n", 4), ("begin 1: none / -\n-", 4), ("begin 1: x / y", 2),
    ("begin 1: none/ - -", 2), ("begin 1: none /- -", 2), ("begin 1: none // -", 2), ("begin 1: " + "- " * 41 + "/ 0", 42),
    ("begin 1: " + "- " * 40 + "/ 40", 43), ("begin 1: " + "- " * 40, 42), ("begin 1: - - -", 5), ("begin 1: -  - /", 3), ("begin 1: - / 0 ", 5),
    # Steps.
    ("step ", 1), ("step stop", 1), ("step start\n", 1), ("step start ", 2), ("step load", 2), ("step load 1", 3), ("step load 1 0", 4),
    ("step load - 0 0", 2), ("step store 0 0", 4), ("step clear 00", 2), ("step scan", 2), ("step end end", 2), ("step  end", 1),
    ("step move 0 1 2", 4), ("step scan x", 2), ("step new " + "1" * 31, 2), ("step look 0", 2), ("step Start", 1), ("step store 0 0 --", 4),
    ("why ", 1), ("why end\n", 1), ("why stop", 1), ("why load 1 x 0", 3), ("why scan", 2), ("why 0", 1), ("why clear -1", 2), ("why start start", 2),
    # Numbers that are at least 1.
    ("undo 0", 1), ("undo ", 1), ("undo -", 1), ("undo 01", 1), ("undo +1", 1), ("undo x", 1), ("undo " + "1" * 31, 1), ("undo 1\n", 1), ("undo \u00b2", 1),
    ("collect 0", 1), ("collect 101", 1), ("collect ", 1), ("collect 1000", 1), ("collect " + "9" * 30, 1), ("collect -", 1), ("collect 00", 1),
    ("collect 100\n", 1), ("collect 010", 1), ("least 0", 1), ("least ", 1), ("least x", 1), ("least safe", 1), ("least 1.0", 1), ("least 2\n", 1),
    # Names.
    ("holds ", 1), ("holds Strong", 1), ("holds strong\n", 1), ("holds strong1", 1), ("holds -", 1), ("holds 0", 1), ("holds x_y", 1), ("holds a-b", 1),
    ("check safe 2 ", 3), ("check safe 2 Held", 3), ("check safe 2 held\n", 3), ("check safe 2 1", 3), ("check safe 0 1", 2), ("check x 0 1", 1),
    ("check safe 1 h\u00e9ld", 3), ("holds \u0430", 1),
    # Goals.
    ("judge x 2", 1), ("judge  2", 1), ("judge safe 0", 2), ("judge safe x", 2), ("judge safe ", 2), ("judge x x", 1), ("judge Safe 2", 1),
    ("judge safe\n 2", 1), ("judge safe 2\n", 2), ("judge 2 safe", 1), ("repairs held 2", 1), ("repairs safe 0", 2), ("repairs strong 0", 1),
    ("count all 2", 1), ("count safe 00", 2), ("count safe -1", 2), ("count bounded\n2 2", 1), ("judge safe " + "1" * 31, 2),
]


class Refused(unittest.TestCase):
    def test_unknown_commands(self):
        for scanning in SCANNINGS:
            for desk, cycle in phases(scanning):
                before = told(desk)
                for command in UNKNOWN:
                    with self.assertRaises(UnknownCommand) as caught:
                        desk.execute(command)
                    self.assertEqual(caught.exception.command, command)
                self.assertEqual(told(desk), before)

    def test_numbers_of_words(self):
        desk = Desk()
        desk.execute("begin 1: - / 0")
        desk.execute("step start")
        before = told(desk)
        for name in NAMES:
            least, most = Chance.SIZES.get(name, (1, 1))
            for many in range(1, 8):
                for word in ("x", "", "1"):
                    command = " ".join([name] + [word] * (many - 1))
                    if not least <= many <= most:
                        with self.assertRaises(UnknownCommand) as caught:
                            desk.execute(command)
                        self.assertEqual(caught.exception.command, command)
                    elif many > 1 and word != "1":
                        error = NoInvariant if (name, word) == ("holds", "x") else ParseError
                        with self.assertRaises(error):
                            desk.execute(command)
        self.assertEqual(told(desk), before)

    def test_any_value(self):
        desk, _ = begun("whole", (1, ((None,),)), (0,))
        before = told(desk)
        for command in ANY + [("show",), ["show"], b"show", Table()]:
            kept = frozen(command) if type(command) is not Table else command
            with self.assertRaises(UnknownCommand) as caught:
                desk.execute(command)
            self.assertIs(caught.exception.command, command)
            self.assertEqual(command, kept)
        self.assertEqual(told(desk), before)

    def test_words_that_are_not_right(self):
        for scanning in SCANNINGS:
            for desk, cycle in phases(scanning):
                before = told(desk)
                for command, word in WRONG:
                    with self.assertRaises(ParseError) as caught:
                        desk.execute(command)
                    self.assertEqual((caught.exception.line, caught.exception.word), (0, word), command)
                self.assertEqual(told(desk), before)

    def test_scans(self):
        for scanning, wrong in [("whole", {"scan 0 0": 3, "scan": 2}), ("fields", {"scan 0": 3, "scan": 2, "scan 0 0 0": 4})]:
            desk = Desk(scanning=scanning)
            for text, word in wrong.items():
                for name in ("step", "why"):
                    with self.assertRaises(ParseError) as caught:
                        desk.execute(f"{name} {text}")
                    self.assertEqual((caught.exception.line, caught.exception.word), (0, word))
            self.assertEqual(desk.execute("why scan 0" + (" 0" if scanning == "fields" else "")), "phase")

    def test_the_order_of_errors(self):
        desk, cycle = begun("whole", (1, ((None,),)), (0,))
        desk.execute("step start")
        # The words before what the functions raise.
        for command, error in [("table black", ParseError), ("table black once: -", Started), ("table", UnknownCommand),
                               ("undo 2", NothingToUndo), ("undo x", ParseError), ("holds X", ParseError), ("check safe 0 nothing", ParseError),
                               ("check safe 2 nothing", InvalidCertificate), ("step start", InvalidStep), ("step start x", ParseError)]:
            with self.assertRaises(error):
                desk.execute(command)
        self.assertEqual(desk.execute("steps"), "start")

    def test_texts_of_tables_heaps_and_steps(self):
        # The same word is not right as in the text alone, one farther on.
        for form, name, texts in [
            ("table", "table", ["black once: -", "black once: old-grey", "black once: load-white - x", "grey again: -", "black  once: -"]),
            ("step", "why", ["load 1 0 0", "load 1 0", "store 0 0 -", "store 0 - 0", "scan 1 1", "scan 1", "look", "look 1"]),
        ]:
            for text in texts:
                desk = Desk()
                word = wrong_word(text.split(" "), due_for(form)([text], 0))
                if word is None:
                    self.assertIn(desk.execute(f"{name} {text}"), ("ok", "phase"))
                else:
                    with self.assertRaises(ParseError) as caught:
                        desk.execute(f"{name} {text}")
                    self.assertEqual(caught.exception.word, word + 1)


class Chance(unittest.TestCase):
    """Commands that are put together by chance, beside the rules of point 72 written anew."""

    WORDS = ["-", "/", "0", "1", "2", "101", "", "none", "1:", "2:", "-,-", "0", "start", "load", "scan", "end", "safe", "bounded", "held", "strong",
             "black", "once:", "old-grey", "x", "1\n", "01"]
    # Names with the least and the greatest number of words.
    SIZES = {"table": (2, 99), "begin": (4, 99), "step": (2, 5), "undo": (1, 2), "collect": (2, 2), "why": (2, 5), "holds": (2, 2),
             "judge": (3, 3), "check": (4, 4), "least": (2, 2), "repairs": (3, 3), "count": (3, 3)}

    def wrong(self, words, scanning):
        """The first word that is not right, or None."""
        name, rest = words[0], words[1:]

        if name in ("table", "step", "why"):
            word = wrong_word(rest, due_for("table" if name == "table" else "step", scanning)([], 0))
            return None if word is None else word + 1
        if name == "begin":
            end = rest.index("/") if "/" in rest else len(rest)
            word = 0 if end == 0 else wrong_word(rest[:end], due_for("heap")([], 0))
            if word is not None:
                return word + 1
            if end == len(rest):
                return len(words)
            word = wrong_word(rest[end + 1:], due_for("run")([" ".join(rest[:end])], 1))
            return None if word is None else word + end + 2
        forms = {"undo": "n", "collect": "p", "holds": "a", "judge": "gn", "check": "gna", "least": "n", "repairs": "gn", "count": "gn"}
        for at, form in enumerate(forms.get(name, "")[:len(rest)]):
            word = rest[at]
            is_count = NUMBER.fullmatch(word) is not None and word != "0"
            right = {"n": is_count, "p": is_count and int(word) <= 100, "g": word in GOALS,
                     "a": word != "" and set(word) <= set("abcdefghijklmnopqrstuvwxyz")}[form]
            if not right:
                return at + 1
        return None

    def test_errors(self):
        kinds = set()
        for chance in chances(40, 132):
            desk, cycle = some_desk(chance, 5)
            scanning = cycle.SCANNING
            for _ in range(120):
                words = [chance.choice(NAMES + ("x", ""))]
                words += [chance.choice(self.WORDS) for _ in range(chance.choice((0, 1, 1, 2, 2, 3, 3, 4, 5, 6)))]
                if words[0] == "begin" and chance.random() < 0.6:
                    words = ["begin", "1:", chance.choice(["-", "0", "none"]), chance.choice(["/", "-"])] + words[1:]
                command = " ".join(words)
                least, most = self.SIZES.get(words[0], (1, 1))
                before = told(desk)
                try:
                    answer = desk.execute(command)
                except UnknownCommand:
                    self.assertTrue(words[0] not in NAMES or not least <= len(words) <= most, command)
                    kinds.add("unknown")
                except ParseError as error:
                    self.assertTrue(words[0] in NAMES and least <= len(words) <= most, command)
                    self.assertEqual((error.line, error.word), (0, self.wrong(words, scanning)), command)
                    kinds.add("parse")
                except (InvalidStep, NoInvariant, NothingToUndo, InvalidCertificate, Started):
                    self.assertIsNone(self.wrong(words, scanning), command)
                    kinds.add("other")
                else:
                    self.assertIsNone(self.wrong(words, scanning), command)
                    self.assertIs(type(answer), str)
                    kinds.add("none")
                    before = told(desk)
                self.assertEqual(told(desk), before)
        self.assertEqual(kinds, {"unknown", "parse", "other", "none"})
