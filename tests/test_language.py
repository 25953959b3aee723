"""The rules of LANGUAGE.md that can be checked line by line and name by name, for every file of the package."""

import ast
import builtins
import importlib
import inspect
import pathlib
import re
import unittest

PACKAGE = pathlib.Path(__file__).parent.parent / "shadeguards"

BUILTINS = set(
    "len range enumerate zip min max sum abs sorted reversed int str bool bytes list tuple dict set isinstance ord repr"
    " any all divmod Exception ValueError TypeError KeyError IndexError LookupError ZeroDivisionError ArithmeticError"
    " OverflowError RuntimeError NotImplementedError AttributeError NotImplemented property classmethod staticmethod"
    " super iter next map".split()
)
LIBRARY = {
    "heapq": {"heappush", "heappop", "heapify", "heapreplace", "heappushpop"},
    "math": {"gcd", "lcm", "isqrt", "comb", "perm", "factorial"},
    "itertools": {"product", "combinations", "permutations", "chain", "accumulate", "pairwise", "islice", "zip_longest"},
    "collections": {"defaultdict"},
}
METHODS = set(
    "append clear copy count endswith extend find get index insert isalnum isalpha isdigit islower isspace isupper items"
    " join keys ljust lower lstrip partition pop remove replace reverse rfind rjust rpartition rsplit rstrip setdefault"
    " split splitlines startswith strip update upper values zfill bit_length add discard isascii".split()
)
DUNDERS = set(
    "__init__ __eq__ __repr__ __str__ __len__ __enter__ __exit__ __call__ __iter__ __lt__ __le__ __gt__ __ge__ __ne__"
    " __add__ __sub__ __mul__ __and__ __or__ __xor__ __neg__ __bool__ __contains__ __getitem__ __setitem__".split()
)
BARRED_NAMES = set(
    "register mro elements open input law version_info with_traceback add_note attrgetter breakpoint builtins compile"
    " copyright credits delattr dir eval exec exit gc globals help id importlib license locals methodcaller os quit"
    " type vars sys _cold _tuplegetter _outside _record _written_out _member_names".split()
)
BARRED_ATTRIBUTES = set(
    "register mro elements open input law version_info with_traceback add_note items keys values pop update append clear"
    " extend insert remove reverse setdefault sort args encode decode hex fromhex format format_map as_integer_ratio"
    " bit_count conjugate from_bytes is_integer to_bytes".split()
)
BARRED_WORDS = re.compile(
    r"\b(type|typing|typing_extensions|enum|Enum|IntEnum|StrEnum|Flag|IntFlag|Generic|Protocol|ABC|ABCMeta|namedtuple"
    r"|NamedTuple|TypedDict|TYPE_CHECKING|abstractmethod)\b|dataclass|overload|contextmanager"
)
BARRED_BEGINNINGS = ("_wall", "_pe_", "_dcw_", "_enum_", "_cm_", "_twin_re_", "_lay_", "_law_", "_stub_", "_sre", "_WallAttr")
ITERATED = {"zip", "enumerate", "reversed", "range"}
# The first row is barred; what follows the package has no need of so far, and it has rules of its own.
NODES = (
    ast.AsyncFunctionDef, ast.AsyncFor, ast.AsyncWith, ast.Await, ast.Global, ast.Import, ast.TryStar,
    ast.Set, ast.SetComp, ast.GeneratorExp, ast.Lambda,
)
INTERFACE = {
    "errors": "ShadeError InvalidEntry InvalidFresh InvalidRoots InvalidHeap InvalidRegisters InvalidThreads InvalidState"
              " InvalidStep InvalidCertificate InvalidChange InvalidGoal ParseError UnknownCommand Started Mismatch NoObject"
              " NoInvariant NothingToUndo TooMany",
    "entries": "COLORS KINDS ENTRIES is_color is_entry sorted_entries",
    "tables": "Table",
    "heaps": "is_heap is_registers make_heap",
    "reaching": "reachable unreachable reach_from path_to",
    "renaming": "is_order renamed_heap renamed_registers renamed_step inverse",
    "steps": "is_step step_rank",
    "states": "is_state",
    "cycles": "Cycle",
    "fieldcycles": "FieldCycle",
    "countingcycles": "CountingCycle CountingFieldCycle cycle_for",
    "whitepaths": "white_path",
    "invariants": "INVARIANTS holds offender first_broken",
    "needs": "needs missing_needs is_kept",
    "breaking": "breaking check_breaking",
    "ways": "GOALS ways fits has_property",
    "losing": "least_length losing_run",
    "runchecks": "play check_name check_run",
    "searching": "search",
    "closedchecks": "check_closed",
    "freeing": "least_freeing freeing_run",
    "overruns": "scan_bound overrun longer_run",
    "judging": "judge check_verdict",
    "changes": "is_change change_table",
    "repairs": "repairs cheapest",
    "counts": "count_tables minimal_tables",
    "scheduling": "schedule",
    "collecting": "collect floating survivors",
    "formatting": "table_text heap_text registers_text step_text run_text change_text",
    "parsing": "parse_table parse_heap parse_step parse_run parse_change",
    "desk": "Desk",
    "threadsteps": "is_thread_step thread_step_rank is_thread_state",
    "threadcycles": "ThreadCycle",
    "threadinvariants": "THREAD_INVARIANTS thread_holds thread_offender first_thread_broken",
    "threadneeds": "thread_needs missing_thread_needs is_thread_kept",
    "threadbreaking": "thread_breaking check_thread_breaking",
    "threadjudge": "thread_ways fits_threads is_safe_pair judge_threads check_threads",
    "threadruns": "losing_threads play_threads",
    "threadrepairs": "is_pair_change change_pair thread_repairs cheapest_pair",
    "threadcounts": "count_pairs minimal_pairs",
    "threadtexts": "threads_text thread_step_text thread_run_text parse_thread_step parse_thread_run",
}
# The parameters as the document prints them.
PARAMETERS = {
    "entries.is_color": "(thing)",
    "entries.is_entry": "(thing)",
    "entries.sorted_entries": "(*entries)",
    "tables.Table": "(*entries, fresh='black', roots='once')",
    "tables.Table.empty": "(*, fresh='black', roots='once')",
    "tables.Table.full": "(*, fresh='black', roots='once')",
    "tables.Table.read": "(text)",
    "tables.Table.changed": "(self, *, fresh=None, roots=None)",
    "heaps.is_heap": "(thing)",
    "heaps.is_registers": "(heap, thing)",
    "heaps.make_heap": "(*objects, width=None)",
    "reaching.reachable": "(heap, registers)",
    "reaching.unreachable": "(heap, registers)",
    "reaching.reach_from": "(heap, *objects)",
    "reaching.path_to": "(heap, registers, x)",
    "renaming.is_order": "(heap, thing)",
    "renaming.renamed_heap": "(heap, order)",
    "renaming.renamed_registers": "(registers, order)",
    "renaming.renamed_step": "(step, order)",
    "renaming.inverse": "(order)",
    "steps.is_step": "(thing, *, scanning='whole')",
    "steps.step_rank": "(step)",
    "states.is_state": "(thing, *, scanning='whole')",
    "cycles.Cycle": "(heap, *registers, table=None)",
    "cycles.Cycle.at": "(state, table)",
    "cycles.Cycle.step": "(self, *steps)",
    "cycles.Cycle.undo": "(self, count=1)",
    "cycles.Cycle.why": "(self, step)",
    "cycles.Cycle.tried": "(self, deed)",
    "cycles.Cycle.change_table": "(self, table)",
    "fieldcycles.FieldCycle": "(heap, *registers, table=None)",
    "countingcycles.CountingCycle": "(heap, *registers, table=None)",
    "countingcycles.CountingFieldCycle": "(heap, *registers, table=None)",
    "countingcycles.cycle_for": "(scanning, heap, registers, *, table=None, counting=False)",
    "whitepaths.white_path": "(cycle, x)",
    "invariants.holds": "(cycle, name)",
    "invariants.offender": "(cycle, name)",
    "invariants.first_broken": "(table, run, name, *, scanning='whole')",
    "needs.needs": "(name, *, registers=2, scanning='whole')",
    "needs.missing_needs": "(table, name, *, registers=2, scanning='whole')",
    "needs.is_kept": "(table, name, *, registers=2, scanning='whole')",
    "breaking.breaking": "(table, name, *, registers=2, scanning='whole')",
    "breaking.check_breaking": "(table, name, value, *, scanning='whole')",
    "ways.ways": "(goal, *, registers=2, scanning='whole')",
    "ways.fits": "(table, way)",
    "ways.has_property": "(table, goal='safe', *, registers=2, scanning='whole')",
    "losing.least_length": "(table, *, registers=2)",
    "losing.losing_run": "(table, *, registers=2, scanning='whole')",
    "runchecks.play": "(table, run, *, scanning='whole')",
    "runchecks.check_name": "(table, name, goal='safe', *, registers=2, scanning='whole')",
    "runchecks.check_run": "(table, run, goal='safe', *, registers=2, scanning='whole')",
    "searching.search": "(table, heap, registers, *, goal='safe', scanning='whole', extra=0, limit=500)",
    "closedchecks.check_closed": "(table, heap, registers, states, *, goal='safe', scanning='whole', extra=0)",
    "freeing.least_freeing": "(table)",
    "freeing.freeing_run": "(table, *, registers=2, scanning='whole')",
    "overruns.scan_bound": "(heap, *, scanning='whole')",
    "overruns.overrun": "(table, *, registers=2, scanning='whole')",
    "overruns.longer_run": "(table, many, *, registers=2, scanning='whole')",
    "judging.judge": "(table, goal='safe', *, registers=2, scanning='whole')",
    "judging.check_verdict": "(table, verdict, goal='safe', *, registers=2, scanning='whole')",
    "changes.is_change": "(thing)",
    "changes.change_table": "(table, *changes)",
    "repairs.repairs": "(table, *goals, registers=2, scanning='whole')",
    "repairs.cheapest": "(table, *goals, prices=(), registers=2, scanning='whole')",
    "counts.count_tables":
        "(goal, *, include=(), exclude=(), fresh=None, roots=None, registers=2, scanning='whole')",
    "counts.minimal_tables": "(goal, *, fresh=None, roots=None, registers=2, scanning='whole')",
    "scheduling.schedule": "(cycle, *program, pace=1)",
    "collecting.collect": "(cycle, *program, pace=1)",
    "collecting.floating": "(cycle)",
    "collecting.survivors": "(cycle)",
    "formatting.table_text": "(table)",
    "formatting.heap_text": "(heap)",
    "formatting.registers_text": "(registers)",
    "formatting.step_text": "(step)",
    "formatting.run_text": "(run)",
    "formatting.change_text": "(change)",
    "parsing.parse_table": "(text)",
    "parsing.parse_heap": "(text)",
    "parsing.parse_step": "(text, *, scanning='whole')",
    "parsing.parse_run": "(text, *, scanning='whole')",
    "parsing.parse_change": "(text)",
    "desk.Desk": "(*, scanning='whole')",
    "threadsteps.is_thread_step": "(thing, *, scanning='whole')",
    "threadsteps.thread_step_rank": "(step)",
    "threadsteps.is_thread_state": "(thing, *, scanning='whole')",
    "threadcycles.ThreadCycle": "(heap, threads, *, early=None, late=None, scanning='whole')",
    "threadcycles.ThreadCycle.at": "(state, early, late, *, scanning='whole')",
    "threadcycles.ThreadCycle.step": "(self, *steps)",
    "threadcycles.ThreadCycle.undo": "(self, count=1)",
    "threadcycles.ThreadCycle.why": "(self, step)",
    "threadcycles.ThreadCycle.tried": "(self, deed)",
    "desk.Desk.execute": "(self, command)",
    "threadinvariants.thread_holds": "(cycle, name)",
    "threadinvariants.thread_offender": "(cycle, name)",
    "threadinvariants.first_thread_broken": "(early, late, run, name, *, scanning='whole')",
    "threadneeds.thread_needs": "(name, *, scanning='whole')",
    "threadneeds.missing_thread_needs": "(early, late, name, *, scanning='whole')",
    "threadneeds.is_thread_kept": "(early, late, name, *, scanning='whole')",
    "threadbreaking.thread_breaking": "(early, late, name, *, scanning='whole')",
    "threadbreaking.check_thread_breaking": "(early, late, name, value, *, scanning='whole')",
    "threadjudge.thread_ways": "(roots, *, scanning='whole')",
    "threadjudge.fits_threads": "(early, late, way)",
    "threadjudge.is_safe_pair": "(early, late, *, scanning='whole')",
    "threadjudge.judge_threads": "(early, late, *, scanning='whole')",
    "threadjudge.check_threads": "(early, late, verdict, *, scanning='whole')",
    "threadruns.losing_threads": "(early, late, *, scanning='whole')",
    "threadruns.play_threads": "(early, late, run, *, scanning='whole')",
    "threadrepairs.is_pair_change": "(thing)",
    "threadrepairs.change_pair": "(early, late, *changes)",
    "threadrepairs.thread_repairs": "(early, late, *, scanning='whole')",
    "threadrepairs.cheapest_pair": "(early, late, *, prices=(), scanning='whole')",
    "threadcounts.count_pairs":
        "(*, early=(), not_early=(), late=(), not_late=(), fresh=None, roots=None, scanning='whole')",
    "threadcounts.minimal_pairs": "(*, fresh='black', roots='once', scanning='whole')",
    "threadtexts.threads_text": "(threads)",
    "threadtexts.thread_step_text": "(step)",
    "threadtexts.thread_run_text": "(run)",
    "threadtexts.parse_thread_step": "(text, *, scanning='whole')",
    "threadtexts.parse_thread_run": "(text, *, scanning='whole')",
}
MEMBERS = {
    ("tables", "Table"): "FRESH ROOTS __init__ empty full read entries fresh roots changed within __call__ __or__ __and__"
                         " __sub__ __eq__ __contains__ __len__ __bool__ __str__ __repr__",
    ("cycles", "Cycle"): "SCANNING MOST_OBJECTS MOST_REGISTERS __init__ heap registers colors visited state phase steps scans"
                         " reachable old begun lost freed table change_table step why moves undo twin trial tried at"
                         " __contains__ __len__ __eq__ __repr__",
    ("fieldcycles", "FieldCycle"): "SCANNING __init__",
    ("countingcycles", "CountingCycle"): "__init__ fired",
    ("countingcycles", "CountingFieldCycle"): "__init__ fired",
    ("desk", "Desk"): "__init__ execute",
    ("threadcycles", "ThreadCycle"): "MOST_THREADS MOST_REGISTERS MOST_OBJECTS __init__ at heap threads colors visited looked state"
                                     " early late scanning phase steps scans old begun reachable lost freed step why moves undo"
                                     " twin tried __contains__ __len__ __eq__ __repr__",
}


def files():
    return sorted(PACKAGE.rglob("*"))


def trees():
    return {path: ast.parse(path.read_text(), str(path)) for path in files() if path.suffix == ".py"}


def walk_all():
    for path, tree in trees().items():
        for node in ast.walk(tree):
            yield path, node


def functions(tree):
    return [node for node in ast.walk(tree) if isinstance(node, ast.FunctionDef)]


def docstrings(tree):
    return {
        id(node.body[0].value)
        for node in ast.walk(tree)
        if isinstance(node, (ast.Module, ast.ClassDef, ast.FunctionDef)) and ast.get_docstring(node) is not None
    }


def is_generator(function):
    return any(isinstance(node, (ast.Yield, ast.YieldFrom)) for node in ast.walk(function))


def bound_names(tree):
    """All names that a file gives to something, attributes not included."""
    for node in ast.walk(tree):
        if isinstance(node, ast.Name) and isinstance(node.ctx, ast.Store):
            yield node.id
        elif isinstance(node, ast.arg):
            yield node.arg
        elif isinstance(node, (ast.FunctionDef, ast.ClassDef)):
            yield node.name
        elif isinstance(node, ast.ImportFrom):
            for alias in node.names:
                yield alias.asname or alias.name


def is_plain(node, above):
    """Whether a value at module level is plain."""
    if isinstance(node, (ast.Tuple, ast.List)):
        return all(is_plain(item, above) for item in node.elts)
    if isinstance(node, ast.Dict):
        return all(is_plain(item, above) for item in node.keys + node.values)
    return isinstance(node, ast.Constant) or (isinstance(node, ast.Name) and node.id in above)


class Files(unittest.TestCase):
    def test_names_and_places(self):
        for path in files():
            self.assertTrue(path.is_file() and path.suffix == ".py", path)
            self.assertRegex(path.stem, r"^[a-z0-9_]+$")
            self.assertNotRegex(path.stem, r"^(law_.*|test|tests|testing|test_.*|site|conftest)$")
            self.assertNotIn(path.stem, dir(builtins))
            self.assertNotIn(path.stem, BARRED_NAMES)

    def test_sizes_and_characters(self):
        for path in files():
            text = path.read_text(encoding="utf-8")
            self.assertRegex(text, r"\A[ -~\n]*\Z", path)
            self.assertLessEqual(len(text.splitlines()), 399, path)
            for line in text.splitlines():
                self.assertLessEqual(len(line), 120, f"{path}: {line}")

    def test_functions_are_short(self):
        for path, tree in trees().items():
            for node in functions(tree):
                self.assertLessEqual(node.end_lineno - node.lineno + 1, 40, f"{path}: {node.name}")


class Interface(unittest.TestCase):
    def test_names_are_defined_in_their_files(self):
        for stem, names in INTERFACE.items():
            tree = ast.parse((PACKAGE / f"{stem}.py").read_text())
            defined = {node.targets[0].id if isinstance(node, ast.Assign) else node.name for node in tree.body
                       if isinstance(node, (ast.Assign, ast.FunctionDef, ast.ClassDef))}
            self.assertLessEqual(set(names.split()), defined, stem)

    def test_parameters(self):
        for name, parameters in PARAMETERS.items():
            stem, *parts = name.split(".")
            found = importlib.import_module(f"shadeguards.{stem}")
            for part in parts:
                found = getattr(found, part)
            self.assertEqual(str(inspect.signature(found)), parameters, name)

    def test_methods_stand_in_their_classes(self):
        for (stem, name), members in MEMBERS.items():
            tree = ast.parse((PACKAGE / f"{stem}.py").read_text())
            body = next(node.body for node in tree.body if isinstance(node, ast.ClassDef) and node.name == name)
            defined = {node.targets[0].id if isinstance(node, ast.Assign) else node.name for node in body
                       if isinstance(node, (ast.Assign, ast.FunctionDef))}
            self.assertLessEqual(set(members.split()), defined, name)


class ModuleLevel(unittest.TestCase):
    def test_statements(self):
        for path, tree in trees().items():
            above = set()
            for place, node in enumerate(tree.body):
                if isinstance(node, ast.Assign):
                    self.assertEqual([type(target) for target in node.targets], [ast.Name], path)
                    self.assertTrue(is_plain(node.value, above), f"{path}:{node.lineno}")
                elif isinstance(node, ast.Expr):
                    self.assertEqual(place, 0, f"{path}:{node.lineno}")
                else:
                    self.assertIsInstance(node, (ast.ImportFrom, ast.FunctionDef, ast.ClassDef), f"{path}:{node.lineno}")
                    if isinstance(node, ast.FunctionDef):
                        above.add(node.name)

    def test_names_are_bound_once(self):
        for path, tree in trees().items():
            names = []
            for node in tree.body:
                if isinstance(node, ast.Assign):
                    names.append(node.targets[0].id)
                elif isinstance(node, ast.ImportFrom):
                    names.extend(alias.name for alias in node.names)
                elif isinstance(node, (ast.FunctionDef, ast.ClassDef)):
                    names.append(node.name)
            self.assertEqual(len(names), len(set(names)), path)

    def test_imports(self):
        defined = {
            path.stem: {
                node.targets[0].id if isinstance(node, ast.Assign) else node.name
                for node in tree.body if isinstance(node, (ast.Assign, ast.FunctionDef, ast.ClassDef))
            }
            for path, tree in trees().items()
        }
        for path, node in walk_all():
            if isinstance(node, ast.ImportFrom):
                self.assertEqual((node.level, node.col_offset), (0, 0), path)
                parts = node.module.split(".")
                names = {alias.name for alias in node.names}
                self.assertFalse([alias.asname for alias in node.names if alias.asname], path)
                if parts[0] == "shadeguards":
                    self.assertEqual(len(parts), 2, path)
                    self.assertLessEqual(names, defined[parts[1]], path)
                else:
                    self.assertLessEqual(names, LIBRARY.get(node.module, set()), path)

    def test_no_circles(self):
        uses = {path.stem: set() for path in trees()}
        for path, node in walk_all():
            if isinstance(node, ast.ImportFrom) and node.module.startswith("shadeguards."):
                uses[path.stem].add(node.module.split(".")[1])
        while uses:
            free = [stem for stem, used in uses.items() if not used & set(uses)]
            self.assertTrue(free, f"files that import from each other: {sorted(uses)}")
            uses = {stem: used for stem, used in uses.items() if stem not in free}

    def test_imports_are_used(self):
        for path, tree in trees().items():
            read = {node.id for node in ast.walk(tree) if isinstance(node, ast.Name)}
            for node in tree.body:
                if isinstance(node, ast.ImportFrom):
                    self.assertLessEqual({alias.name for alias in node.names}, read, path)


class Names(unittest.TestCase):
    def test_no_builtin_and_no_barred_name(self):
        for path, tree in trees().items():
            methods = {f.name for c in ast.walk(tree) if isinstance(c, ast.ClassDef) for f in c.body
                       if isinstance(f, ast.FunctionDef)}
            for name in bound_names(tree):
                self.assertNotIn(name, BARRED_NAMES, path)
                self.assertFalse(name.startswith(BARRED_BEGINNINGS), f"{path}: {name}")
                if name.startswith("__"):
                    self.assertIn(name, DUNDERS, path)
                elif name not in methods:
                    self.assertNotIn(name, dir(builtins), path)

    def test_locals_are_no_imports_and_no_classes(self):
        for path, tree in trees().items():
            taken = {alias.name for node in tree.body if isinstance(node, ast.ImportFrom) for alias in node.names}
            taken |= {node.name for node in tree.body if isinstance(node, ast.ClassDef)}
            for function in functions(tree):
                for name in bound_names(ast.Module(function.body, [])):
                    self.assertNotIn(name, taken, f"{path}: {function.name}")
                for node in ast.walk(function.args):
                    if isinstance(node, ast.arg):
                        self.assertNotIn(node.arg, taken, f"{path}: {function.name}")

    def test_attributes(self):
        stored, read = {}, {}
        for path, node in walk_all():
            if isinstance(node, ast.Attribute):
                (stored if isinstance(node.ctx, ast.Store) else read)[node.attr] = path
            elif isinstance(node, ast.ClassDef):
                for item in node.body:
                    if isinstance(item, ast.FunctionDef):
                        stored.setdefault(item.name, path)
                    elif isinstance(item, ast.Assign):
                        stored[item.targets[0].id] = path
        for name, path in stored.items():
            self.assertNotIn(name, BARRED_ATTRIBUTES, path)
        for name, path in read.items():
            self.assertTrue(name in stored or name in METHODS or name in {"__class__", "__name__", "setter", "__init__"},
                            f"{path}: {name}")

    def test_properties_are_not_stored_elsewhere(self):
        properties, settable, stored = set(), set(), {}
        for path, node in walk_all():
            if isinstance(node, ast.FunctionDef):
                for decorator in node.decorator_list:
                    if isinstance(decorator, ast.Name) and decorator.id == "property":
                        properties.add(node.name)
                    elif isinstance(decorator, ast.Attribute):
                        settable.add(node.name)
            elif isinstance(node, ast.Attribute) and isinstance(node.ctx, ast.Store):
                stored[node.attr] = path
        for name in properties - settable:
            self.assertNotIn(name, stored)
        self.assertFalse(properties & METHODS)

    def test_generators_have_names_of_their_own(self):
        names = [node.name for path, node in walk_all() if isinstance(node, ast.FunctionDef)]
        for path, node in walk_all():
            if isinstance(node, ast.FunctionDef) and is_generator(node):
                self.assertEqual(names.count(node.name), 1, f"{path}: {node.name}")
                self.assertNotIn(node.name, METHODS, path)

    def test_builtins_that_are_used(self):
        for path, node in walk_all():
            if isinstance(node, ast.Name) and node.id in dir(builtins):
                self.assertIn(node.id, BUILTINS, f"{path}:{node.lineno}")


class Expressions(unittest.TestCase):
    def test_statements_and_expressions_that_do_not_occur(self):
        for path, node in walk_all():
            self.assertNotIsInstance(node, NODES, f"{path}:{getattr(node, 'lineno', 0)}")

    def test_decorators(self):
        for path, node in walk_all():
            if isinstance(node, ast.FunctionDef):
                for decorator in node.decorator_list:
                    name = decorator.attr if isinstance(decorator, ast.Attribute) else decorator.id
                    self.assertIn(name, {"property", "classmethod", "staticmethod", "setter"}, path)
            elif isinstance(node, ast.ClassDef):
                self.assertEqual(node.decorator_list, [], path)

    def test_handlers_name_own_errors(self):
        for path, node in walk_all():
            if isinstance(node, ast.Try):
                self.assertEqual(node.finalbody, [], f"{path}:{node.lineno}")
                for handler in node.handlers:
                    self.assertIsInstance(handler.type, ast.Name, f"{path}:{node.lineno}")
                    self.assertIn(handler.type.id, INTERFACE["errors"].split(), f"{path}:{node.lineno}")

    def test_what_stands_behind_a_star(self):
        plain = (ast.Name, ast.Constant, ast.Attribute, ast.List, ast.Tuple)
        for path, node in walk_all():
            if isinstance(node, ast.Call):
                stars = [at for at, one in enumerate(node.args) if isinstance(one, ast.Starred)]
                if stars:
                    behind = [node.args[at].value for at in stars] + node.args[stars[-1] + 1:]
                    for one in behind + [keyword.value for keyword in node.keywords]:
                        self.assertIsInstance(one, plain, f"{path}:{node.lineno}")

    def test_no_generator_of_the_package_is_a_value(self):
        generators = {node.name for _, node in walk_all() if isinstance(node, ast.FunctionDef) and is_generator(node)}
        for path, tree in trees().items():
            at_once = set()
            for node in ast.walk(tree):
                if isinstance(node, (ast.For, ast.comprehension)):
                    at_once.add(id(getattr(node.iter, "func", None)))
                elif isinstance(node, ast.Call) and isinstance(node.func, ast.Name) and node.args:
                    if node.func.id in {"list", "tuple", "dict", "sorted", "sum", "any", "all", "enumerate", "zip"}:
                        at_once.add(id(getattr(node.args[0], "func", None)))
            for node in ast.walk(tree):
                if isinstance(node, ast.Name) and node.id in generators:
                    self.assertIn(id(node), at_once, f"{path}:{node.lineno}")

    def test_constants(self):
        for path, tree in trees().items():
            prose = docstrings(tree)
            for node in ast.walk(tree):
                if isinstance(node, ast.Constant):
                    self.assertIsInstance(node.value, (int, str, type(None)), f"{path}:{node.lineno}")
                    if isinstance(node.value, str):
                        self.assertNotIn(chr(37), node.value, f"{path}:{node.lineno}")
                        self.assertFalse(node.value.endswith(("._", ".__")), f"{path}:{node.lineno}")
                        if id(node) not in prose:
                            self.assertNotRegex(node.value, BARRED_WORDS, f"{path}:{node.lineno}")

    def test_barred_words(self):
        for path, tree in trees().items():
            for node in ast.walk(tree):
                for name in [getattr(node, field, None) for field in ("id", "attr", "arg", "name")]:
                    if isinstance(name, str):
                        self.assertNotRegex(name, BARRED_WORDS, f"{path}: {name}")
            self.assertNotIn("(type)", path.read_text())

    def test_division_and_is(self):
        for path, node in walk_all():
            self.assertNotIsInstance(node, (ast.Div, ast.MatMult), path)
            if isinstance(node, ast.Compare):
                for operator, side in zip(node.ops, node.comparators):
                    if isinstance(operator, (ast.Is, ast.IsNot)):
                        self.assertIsInstance(side, ast.Constant, f"{path}:{node.lineno}")

    def test_what_is_iterated_at_once(self):
        for path, tree in trees().items():
            at_once = set()
            for node in ast.walk(tree):
                if isinstance(node, (ast.For, ast.comprehension)):
                    at_once.add(id(node.iter))
                elif isinstance(node, ast.Call) and isinstance(node.func, ast.Name) and node.args:
                    if node.func.id in {"list", "tuple", "dict", "sorted", "sum", "any", "all", "enumerate", "zip"}:
                        at_once.add(id(node.args[0]))
            for node in ast.walk(tree):
                if isinstance(node, ast.Call) and isinstance(node.func, ast.Name) and node.func.id in ITERATED:
                    self.assertIn(id(node), at_once, f"{path}:{node.lineno}")

    def test_sets_stand_in_len_or_sorted_or_are_assigned_once(self):
        for path, tree in trees().items():
            right = set()
            for node in ast.walk(tree):
                if isinstance(node, ast.Call) and isinstance(node.func, ast.Name) and node.func.id in ("len", "sorted"):
                    right.add(id(node.args[0]))
                elif isinstance(node, ast.Assign) and isinstance(node.targets[0], ast.Name):
                    right.add(id(node.value))
            for node in ast.walk(tree):
                if isinstance(node, ast.Call) and isinstance(node.func, ast.Name) and node.func.id == "set":
                    self.assertIn(id(node), right, f"{path}:{node.lineno}")

    def test_methods_that_are_called(self):
        own = {node.name for path, node in walk_all() if isinstance(node, ast.FunctionDef)}
        for path, node in walk_all():
            if isinstance(node, ast.Call) and isinstance(node.func, ast.Attribute):
                self.assertIn(node.func.attr, METHODS | own, f"{path}:{node.lineno}")
                if node.func.attr in METHODS:
                    self.assertEqual(node.keywords, [], f"{path}:{node.lineno}")

    def test_no_annotations(self):
        for path, node in walk_all():
            self.assertNotIsInstance(node, ast.AnnAssign, path)
            if isinstance(node, ast.arg):
                self.assertIsNone(node.annotation, path)
            elif isinstance(node, ast.FunctionDef):
                self.assertIsNone(node.returns, path)
