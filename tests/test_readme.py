"""What README.md shows can be done, and tells what it says."""

import ast
import pathlib
import re
import unittest

README = pathlib.Path(__file__).resolve().parent.parent / "README.md"


def comment_of(lines, node):
    """What stands behind a statement, or alone in the line below it."""
    tail = lines[node.end_lineno - 1][node.end_col_offset:].strip()
    if not tail and node.end_lineno < len(lines):
        tail = lines[node.end_lineno].strip()
    return tail[1:].strip() if tail.startswith("#") else ""


def literal(text):
    """The value that a text writes out, in a tuple; None of any other text."""
    try:
        return (ast.literal_eval(text),)
    except (ValueError, SyntaxError):
        return None


class ReadmeTest(unittest.TestCase):
    def test_all_that_it_shows(self):
        names, compared = {}, 0
        for block in re.findall(r"```python\n(.*?)```", README.read_text("ascii"), re.S):
            for node in ast.parse(block).body:
                if not isinstance(node, ast.Expr):
                    exec(compile(ast.Module([node], []), "README.md", "exec"), names)
                    continue
                told = eval(compile(ast.Expression(node.value), "README.md", "eval"), names)
                written = literal(comment_of(block.split("\n"), node))
                if written is not None:
                    with self.subTest(ast.unparse(node)):
                        self.assertEqual(told, written[0])
                    compared += 1
        self.assertGreater(compared, 40)

    def test_it_names_all_modules(self):
        text = README.read_text("ascii")
        for path in sorted((README.parent / "rowveil").glob("*.py")):
            if path.name != "__init__.py":
                self.assertIn(f"`rowveil/{path.name}`", text)


if __name__ == "__main__":
    unittest.main()
