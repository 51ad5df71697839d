"""What README.md shows is what the program tells."""

import ast
import pathlib
import re
import unittest

README = pathlib.Path(__file__).resolve().parent.parent / "README.md"


class Readme(unittest.TestCase):
    def test_each_shown_answer(self):
        shown = 0
        for code in re.findall(r"```python\n(.*?)```", README.read_text("utf-8"), re.DOTALL):
            names = {}
            # One behind the other, each once: what a store tells hangs on what was done ahead.
            for row in ast.parse(code).body:
                question = ast.get_source_segment(code, row)
                if isinstance(row, ast.Expr):
                    answer = code.split("\n")[row.end_lineno - 1][row.end_col_offset:].strip()
                    self.assertTrue(answer.startswith("# "), question)
                    self.assertEqual(eval(question, names), eval(answer[2:]), question)
                    shown += 1
                else:
                    exec(question, names)
        self.assertGreaterEqual(shown, 30)


if __name__ == "__main__":
    unittest.main()
