"""The examples of the document. Each file's examples use the names that earlier ones have bound."""

import os
import unittest

from seenframes.errors import SeenError

HERE = os.path.dirname(os.path.abspath(__file__))


def examples():
    """Triples of a heading, a line of code and the lines of its answer."""
    with open(os.path.join(HERE, "examples.txt"), encoding="utf-8") as lines:
        rows = lines.read().splitlines()
    heading = ""
    found = []
    for row in rows:
        if row.startswith("# "):
            heading = row[2:]
        elif row.startswith(">>> "):
            found.append((heading, row[4:], []))
        else:
            found[-1][2].append(row)
    return found


def answer(code, names):
    """What Python shows behind a line of code, or the error that it raises."""
    try:
        try:
            value = eval(code, names)
        except SyntaxError:
            exec(code, names)
            return ""
    except SeenError as error:
        return f"raises {type(error).__name__}({', '.join(repr(value) for value in vars(error).values())})"
    return "" if value is None else repr(value)


class Examples(unittest.TestCase):

    def test_examples(self):
        names = {}
        for heading, code, wanted in examples():
            with self.subTest(heading=heading, code=code):
                self.assertEqual(answer(code, names), "\n".join(wanted))

    def test_none_is_left_out(self):
        self.assertGreater(len(examples()), 9)
