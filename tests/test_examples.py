"""The examples of the interface: each line behind >>> gives just the result, or the error, below it."""

import re
import unittest
from pathlib import Path

FOLDER = Path(__file__).parent / "examples"


def examples(text):
    """The tuples (source, what is expected) of the examples in a text."""
    return [(source, result.strip()) for source, result in re.findall(r"^>>> (.*)\n((?:(?!>>> ).*\n)*)", text, re.M)]


def outcome(source, names):
    """What a line gives, as the interface writes it."""
    try:
        code = compile(source, "example", "eval")
    except SyntaxError:
        exec(source, names)
        return ""
    try:
        value = eval(code, names)
    except ValueError as error:
        told = ", ".join(repr(value) for value in vars(error).values())
        return f"raises {type(error).__name__}({told})"
    return "" if value is None else repr(value)


class TestExamples(unittest.TestCase):
    def test_examples(self):
        files = sorted(FOLDER.glob("*.txt"))
        self.assertEqual(25, len(files))
        for file in files:
            names = {}
            rows = examples(file.read_text())
            self.assertGreater(len(rows), 4)
            for source, expected in rows:
                with self.subTest(file=file.name, source=source):
                    self.assertEqual(expected, outcome(source, names))


if __name__ == "__main__":
    unittest.main()
