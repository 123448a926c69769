"""README.md: what its examples return is what the comments behind them tell."""

import ast
import pathlib
import re
import unittest

README = pathlib.Path(__file__).resolve().parent.parent / "README.md"


class Telling(ast.NodeTransformer):
    """Makes each expression that stands alone tell its line and its value."""

    def visit_Expr(self, node):
        told = ast.Call(ast.Name("tell", ast.Load()), [ast.Constant(node.end_lineno), node.value], [])
        return ast.copy_location(ast.Expr(told), node)


def comment_behind(lines, number):
    """What the comment says that stands straight behind the line with this number, counted from 1."""
    found = []
    for line in lines[number:]:
        if not re.match(r" *# ", line):
            break
        found.append(line.strip()[2:])
    return "\n".join(found)


def value_of(comment):
    """The value that a comment tells first; what it says of later lines stands behind it."""
    lines = comment.split("\n")
    for many in range(len(lines), 0, -1):
        try:
            return ast.literal_eval("\n".join(lines[:many]))
        except (SyntaxError, ValueError):
            continue
    raise AssertionError(f"no value in the comment {comment!r}")


class Examples(unittest.TestCase):
    def test_each_example(self):
        names, many = {}, 0
        for block in re.findall(r"```python\n(.*?)```", README.read_text(), re.DOTALL):
            told = []
            names["tell"] = lambda number, value: told.append((number, value))
            tree = ast.fix_missing_locations(Telling().visit(ast.parse(block)))
            exec(compile(tree, "README.md", "exec"), names)
            for number, value in told:
                comment = comment_behind(block.split("\n"), number)
                if comment:
                    many += 1
                    self.assertEqual(value, value_of(comment), comment)
        self.assertGreater(many, 15)
