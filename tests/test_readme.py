"""The example in README.md returns what its comments tell."""

import ast
import pathlib
import unittest

README = pathlib.Path(__file__).parent.parent / "README.md"


class Readme(unittest.TestCase):
    def test_the_example(self):
        code = README.read_text().split("```python\n")[1].split("```")[0]
        names = {}
        checked = 0
        exec(code, names)
        for row in code.splitlines():
            call, mark, told = row.partition("  # ")
            if not mark:
                continue
            call = call.partition(" = ")[2] or call
            literal = told.strip().partition(": ")[0]
            self.assertEqual(eval(call, names), ast.literal_eval(literal), row)
            checked += 1
        self.assertEqual(checked, 20)


if __name__ == "__main__":
    unittest.main()
