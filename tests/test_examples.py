"""The examples of the document, as they are printed there (tests/examples)."""

import pathlib
import unittest

from shadeguards import errors

FOLDER = pathlib.Path(__file__).parent / "examples"


def examples(text):
    """The examples of a text: lists of lines of code, and the line that tells what the last one gives."""
    code = []
    for line in text.splitlines():
        if line.startswith(">>> "):
            code.append(line[len(">>> "):])
        elif line:
            yield code, line
            code = []
    if code:
        raise ValueError("an example without a result")


def play(code):
    """The value of the last line."""
    names = {}
    for line in code[:-1]:
        exec(line, names)
    return eval(code[-1], names)


class Examples(unittest.TestCase):
    def check(self, code, expected):
        if expected.startswith("raises "):
            error = eval(expected[len("raises "):], vars(errors).copy())
            with self.assertRaises(type(error)) as caught:
                play(code)
            self.assertIs(type(caught.exception), type(error))
            self.assertEqual(repr(vars(caught.exception)), repr(vars(error)))
        else:
            self.assertEqual(repr(play(code)), expected)

    def test_all(self):
        for path in sorted(FOLDER.glob("*.txt")):
            found = list(examples(path.read_text()))
            self.assertTrue(found, path.name)
            for code, expected in found:
                with self.subTest(file=path.name, code=code[-1]):
                    self.check(code, expected)
