"""What README.md shows is what the program tells."""

import pathlib
import re
import unittest

README = pathlib.Path(__file__).resolve().parent.parent / "README.md"


class Readme(unittest.TestCase):
    def test_each_shown_answer(self):
        shown = 0
        for code in re.findall(r"```python\n(.*?)```", README.read_text("utf-8"), re.DOTALL):
            names = {}
            exec(code, names)
            for question, answer in re.findall(r"^(\S.*?) +# (.*)$", code, re.MULTILINE):
                self.assertEqual(eval(question, names), eval(answer), question)
                shown += 1
        self.assertGreaterEqual(shown, 10)


if __name__ == "__main__":
    unittest.main()
