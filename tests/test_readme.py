"""The examples of README.md print what stands beside them."""

import contextlib
import io
import os
import re
import unittest

README = os.path.join(os.path.dirname(os.path.dirname(os.path.abspath(__file__))), "README.md")


class Readme(unittest.TestCase):

    def test_examples(self):
        with open(README, encoding="utf-8") as lines:
            blocks = re.findall(r"```python\n(.*?)```", lines.read(), re.S)
        code = "\n".join(blocks)
        wanted = re.findall(r"^(?: *print\(.*\) +)?# (.*)$", code, re.M)
        printed = io.StringIO()
        with contextlib.redirect_stdout(printed):
            exec(code, {})
        self.assertGreater(len(wanted), 15)
        self.assertEqual(printed.getvalue().splitlines(), wanted)
