"""The examples in README.md return what their comments tell."""

import ast
import pathlib
import unittest

README = pathlib.Path(__file__).parent.parent / "README.md"


class Readme(unittest.TestCase):
    def checked(self, number):
        """How many statements of an example return, or assign, what is told; fails if one doesn't."""
        code = README.read_text().split("```python\n")[number + 1].split("```")[0]
        names = {}
        checked = 0
        for node in ast.parse(code).body:
            row = code.splitlines()[node.end_lineno - 1]
            _, mark, told = row.partition("  # ")
            if isinstance(node, ast.Expr):
                found = eval(compile(ast.Expression(node.value), "README.md", "eval"), names)
            else:
                exec(compile(ast.Module([node], []), "README.md", "exec"), names)
                found = names[node.targets[0].id] if isinstance(node, ast.Assign) else None
            if mark:
                self.assertEqual(found, ast.literal_eval(told.partition(": ")[0]), row)
                checked += 1
        return checked

    def test_towers_and_rules(self):
        self.assertEqual(self.checked(0), 20)

    def test_arms_books_and_times(self):
        self.assertEqual(self.checked(1), 25)

    def test_fog_chains_texts_and_the_desk(self):
        self.assertEqual(self.checked(2), 32)


if __name__ == "__main__":
    unittest.main()
