"""What README.md says that the program answers."""

import ast
import pathlib
import re
import unittest

README = pathlib.Path(__file__).resolve().parent.parent / "README.md"


def blocks():
    return re.findall(r"```python\n(.*?)```", README.read_text(encoding="utf-8"), re.DOTALL)


def promised(remark):
    """The value that the remark begins with, in a list, or an empty list."""
    for end in range(len(remark), 0, -1):
        # A comma behind the value belongs to the words, not to the value.
        if remark[end - 1] not in ", ":
            try:
                return [ast.literal_eval(remark[:end])]
            except (SyntaxError, ValueError):
                continue
    return []


class TestReadme(unittest.TestCase):
    def test_the_answers(self):
        names, seen = {}, 0
        for block in blocks():
            rows = block.splitlines()
            for statement in ast.parse(block).body:
                text = ast.get_source_segment(block, statement)
                remark = rows[statement.end_lineno - 1].partition("#")[2].strip()
                if isinstance(statement, ast.Expr):
                    told = eval(text, names)
                    for wanted in promised(remark):
                        self.assertEqual(told, wanted, text)
                        seen += 1
                else:
                    exec(text, names)
        self.assertGreater(seen, 20)


if __name__ == "__main__":
    unittest.main()
