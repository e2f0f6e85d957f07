"""README.md's examples tell what the program tells."""

import ast
import re
import unittest
from pathlib import Path

README = Path(__file__).resolve().parent.parent / "README.md"


def examples():
    """Each row of the examples that stands by itself, with its remark; rows that give or draw in names alone."""
    for block in re.findall(r"```python\n(.*?)```", README.read_text(encoding="utf-8"), re.S):
        rows = block.split("\n")
        for node in ast.parse(block).body:
            remark = rows[node.end_lineno - 1].partition("#")[2].strip()
            yield ast.get_source_segment(block, node), isinstance(node, ast.Expr), remark


def told_by(remark, names):
    """What a remark tells; behind a comma words may stand."""
    try:
        return eval(remark, names)
    except SyntaxError:
        return eval(remark.rpartition(",")[0], names)


class ReadmeTest(unittest.TestCase):
    def test_examples(self):
        names = {}
        asked = 0
        for text, is_asked, remark in examples():
            with self.subTest(text):
                if is_asked:
                    asked += 1
                    self.assertEqual(eval(text, names), told_by(remark, names))
                else:
                    exec(text, names)
        self.assertGreater(asked, 30)


if __name__ == "__main__":
    unittest.main()
