"""The examples of README.md: the comment behind each expression begins with its value."""

import ast
import pathlib
import re
import unittest

README = pathlib.Path(__file__).resolve().parent.parent / "README.md"


def values_told(block, names):
    """For each expression of a block, run in order: its text, its value and the comment behind it."""
    lines = block.split("\n")
    for node in ast.parse(block).body:
        if not isinstance(node, ast.Expr):
            exec(compile(ast.Module([node], []), "README.md", "exec"), names)
            continue
        value = eval(compile(ast.Expression(node.value), "README.md", "eval"), names)
        yield ast.unparse(node), value, lines[node.end_lineno - 1].partition("# ")[2]


class ReadmeTest(unittest.TestCase):
    def test_examples(self):
        names, seen = {}, 0
        for block in re.findall(r"```python\n(.*?)```", README.read_text(), re.DOTALL):
            for text, value, comment in values_told(block, names):
                self.assertTrue(comment.startswith(repr(value)), f"{text} is {value!r}, not {comment}")
                seen += 1
        self.assertGreater(seen, 40)


if __name__ == "__main__":
    unittest.main()
