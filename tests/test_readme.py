"""README.md: what its lines of use give is what their remarks tell."""

import ast
import pathlib
import re
import unittest

README = pathlib.Path(__file__).resolve().parent.parent / "README.md"


def told_value(remark):
    """The value with which a remark begins, as a tuple of it alone; none where it begins with no value."""
    for end in range(len(remark), 0, -1):
        try:
            return (ast.literal_eval(remark[:end]),)
        except (ValueError, SyntaxError):
            continue
    return ()


class ReadmeTest(unittest.TestCase):
    def test_use(self):
        block = re.search(r"```python\n(.*?)```", README.read_text(encoding="utf-8"), re.DOTALL).group(1)
        lines = block.split("\n")
        names = {}
        checked = 0
        for node in ast.parse(block).body:
            code = ast.get_source_segment(block, node)
            if not isinstance(node, ast.Expr):
                exec(code, names)
                continue
            value = eval(code, names)
            remark = lines[node.end_lineno - 1][node.end_col_offset:].lstrip(" #")
            for told in told_value(remark):
                checked += 1
                self.assertEqual(value, told, code)
        self.assertGreater(checked, 30)


if __name__ == "__main__":
    unittest.main()
