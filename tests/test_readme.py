"""What README.md shows is what the program answers."""

import ast
import pathlib
import re
import unittest

from safegrants.works import answers

README = pathlib.Path(__file__).resolve().parent.parent / "README.md"


class Examples(unittest.TestCase):
    def test_answers(self):
        blocks = re.findall(r"```python\n(.*?)```", README.read_text(), re.DOTALL)
        self.assertEqual(len(blocks), 2)
        for block in blocks:
            calls = re.search(r"answers\((\[.*?\n\])\)", block, re.DOTALL).group(1)
            told = re.search(r"^# (\[.*\])$", block, re.MULTILINE).group(1)
            self.assertEqual(answers(ast.literal_eval(calls)), ast.literal_eval(told))


if __name__ == "__main__":
    unittest.main()
