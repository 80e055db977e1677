"""The values that README.md shows are those that the program returns."""

import ast
import pathlib
import unittest

README = pathlib.Path(__file__).resolve().parent.parent / "README.md"


class ReadmeTest(unittest.TestCase):
    def test_shown_values(self):
        blocks = README.read_text(encoding="utf-8").split("```python\n")[1:]
        self.assertGreater(len(blocks), 2)
        for code in [block.split("```")[0] for block in blocks]:
            names = {}
            exec(code, names)
            shown = [line.split(" # ") for line in code.splitlines() if " # " in line]
            self.assertGreater(len(shown), 3)
            for call, value in shown:
                self.assertEqual(eval(call.strip(), names), ast.literal_eval(value.strip()), call)


if __name__ == "__main__":
    unittest.main()
