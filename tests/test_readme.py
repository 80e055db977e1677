"""The values that README.md shows are those that the program returns."""

import ast
import pathlib
import unittest

README = pathlib.Path(__file__).resolve().parent.parent / "README.md"


class ReadmeTest(unittest.TestCase):
    def test_shown_values(self):
        blocks = README.read_text(encoding="utf-8").split("```python\n")[1:]
        self.assertGreater(len(blocks), 2)
        for code in [block.split("```")[0] for block in blocks]:
            names, shown, lines = {}, 0, code.splitlines()
            for row in ast.parse(code).body:
                text = "\n".join(lines[row.lineno - 1:row.end_lineno])
                if " # " in text:
                    call, value = text.split(" # ")
                    self.assertEqual(eval(call.strip(), names), ast.literal_eval(value.strip()), call)
                    shown += 1
                else:
                    exec(text, names)
            self.assertGreater(shown, 3)


if __name__ == "__main__":
    unittest.main()
