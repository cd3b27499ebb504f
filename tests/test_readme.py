"""The examples in README.md return what their comments tell."""

import ast
import pathlib
import unittest

README = pathlib.Path(__file__).parent.parent / "README.md"


class Readme(unittest.TestCase):
    def test_the_first_example(self):
        self.assertEqual(self.checked(0), 20)

    def test_the_second_example(self):
        self.assertEqual(self.checked(1), 25)

    def checked(self, number):
        """How many calls of an example return what is told; fails if one doesn't."""
        code = README.read_text().split("```python\n")[number + 1].split("```")[0]
        names = {}
        checked = 0
        exec(code, names)
        for row in code.splitlines():
            call, mark, told = row.partition("  # ")
            if not mark:
                continue
            call = call.partition(" = ")[2] or call
            literal = told.strip().partition(": ")[0]
            self.assertEqual(eval(call, names), ast.literal_eval(literal), row)
            checked += 1
        return checked


if __name__ == "__main__":
    unittest.main()
