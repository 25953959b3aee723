"""Point 14, and point 81 for InvalidThreads: the errors."""

import inspect
import unittest

from shadeguards import errors
from tests.values import ANY, frozen

FIELDS = {
    "InvalidEntry": ("index",),
    "InvalidFresh": ("value",),
    "InvalidRoots": ("value",),
    "InvalidHeap": (),
    "InvalidRegisters": ("index",),
    "InvalidThreads": ("index",),
    "InvalidState": (),
    "InvalidStep": ("index", "reason"),
    "InvalidCertificate": ("reason",),
    "InvalidChange": ("index",),
    "InvalidGoal": ("value",),
    "ParseError": ("line", "word"),
    "UnknownCommand": ("command",),
    "Started": (),
    "Mismatch": (),
    "NoObject": ("index",),
    "NoInvariant": ("name",),
    "NothingToUndo": ("count",),
    "TooMany": ("limit",),
}
OTHERS = {"NoObject": IndexError, "NoInvariant": KeyError, "NothingToUndo": LookupError, "TooMany": OverflowError}
BUILT_IN = (ValueError, IndexError, KeyError, LookupError, OverflowError)


def classes():
    return {name: getattr(errors, name) for name in FIELDS}


class Errors(unittest.TestCase):
    def test_all_are_there_and_no_others(self):
        found = {name for name, thing in vars(errors).items() if inspect.isclass(thing)}
        self.assertEqual(found, set(FIELDS) | {"ShadeError"})

    def test_built_in_bases(self):
        for name, error in classes().items():
            base = OTHERS.get(name, ValueError)
            allowed = [kind for kind in BUILT_IN if issubclass(base, kind)]
            with self.subTest(name):
                self.assertEqual([kind for kind in BUILT_IN if issubclass(error, kind)], allowed)

    def test_own_bases(self):
        self.assertTrue(issubclass(errors.ShadeError, ValueError))
        for name, error in classes().items():
            for other, base in [*classes().items(), ("ShadeError", errors.ShadeError)]:
                expected = name == other or (other == "ShadeError" and name not in OTHERS)
                with self.subTest(f"{name} under {other}"):
                    self.assertEqual(issubclass(error, base), expected)

    def test_arguments_by_position_and_by_name(self):
        for name, error in classes().items():
            fields = FIELDS[name]
            given = [f"argument {index}" for index in range(len(fields))]
            by_name = dict(zip(fields, given))
            with self.subTest(name):
                self.assertEqual(vars(error(*given)), by_name)
                self.assertEqual(vars(error(**by_name)), by_name)
                self.assertEqual(vars(error(**dict(reversed(by_name.items())))), by_name)

    def test_arguments_are_kept_as_they_are(self):
        for name, error in classes().items():
            for thing in ANY:
                for at, field in enumerate(FIELDS[name]):
                    before = frozen(thing)
                    given = ["x"] * len(FIELDS[name])
                    given[at] = thing
                    raised = error(*given)
                    self.assertIs(getattr(raised, field), thing)
                    self.assertEqual(thing, before)

    def test_they_can_be_raised_and_caught(self):
        for name, error in classes().items():
            given = [3] * len(FIELDS[name])
            with self.subTest(name), self.assertRaises(OTHERS.get(name, errors.ShadeError)) as caught:
                raise error(*given)
            self.assertIs(type(caught.exception), error)
            self.assertIsInstance(str(caught.exception), str)
