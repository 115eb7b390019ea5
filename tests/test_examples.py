"""The examples of the document, word for word."""

import unittest
from pathlib import Path

PATH = Path(__file__).with_name("examples.txt")


def examples():
    """The tuples (line number, source, expected lines) of all groups of examples."""
    groups = []
    for number, line in enumerate(PATH.read_text().split("\n"), 1):
        if line.startswith(">>> "):
            groups.append((number, line[4:], []))
        elif line:
            groups[-1][2].append(line)
        else:
            groups.append((number, None, []))
    return groups


def told(source, names):
    """What an example shows: the value of an expression, the error, or nothing."""
    try:
        code = compile(source, "example", "eval")
    except SyntaxError:
        exec(source, names)
        return []
    try:
        value = eval(code, names)
    except Exception as error:
        fields = ", ".join(f"{name}={value!r}" for name, value in vars(error).items())
        return [f"raises {error.__class__.__name__}({fields})"]
    return [] if value is None else [repr(value)]


class Examples(unittest.TestCase):
    def test_all(self):
        names = {}
        shown = 0
        for number, source, expected in examples():
            if source is None:
                names = {}
                continue
            with self.subTest(line=number):
                self.assertEqual(told(source, names), expected)
                shown += bool(expected)
        self.assertEqual(shown, 42)


if __name__ == "__main__":
    unittest.main()
