"""README.md: its examples run and give what stands beside them."""

import ast
import pathlib
import re
import unittest

README = pathlib.Path(__file__).resolve().parent.parent / "README.md"


class Examples(unittest.TestCase):
    def test_examples(self):
        blocks = re.findall(r"```python\n(.*?)```", README.read_text("utf-8"), re.DOTALL)
        names = {}
        checked = 0
        for block in blocks:
            for line in block.split("\n"):
                code, _, told = line.partition("#")
                # What is told after "# " begins with the value; words may follow behind a colon or a semicolon.
                value = re.match(r"\(.*\)(?=$|[:;])|\[.*\](?=$|[:;])|True|False|\d+$", told.strip())
                if value and not re.match(r"\w+ = |from |print", code):
                    self.assertEqual(eval(code, names), ast.literal_eval(value.group()), line)
                    checked += 1
                elif code.strip() and not code.startswith("print"):
                    exec(code, names)
        self.assertGreater(checked, 10)
