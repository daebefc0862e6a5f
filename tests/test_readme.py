"""The examples of README.md answer what stands beside them."""

import unittest
from pathlib import Path

README = Path(__file__).resolve().parent.parent / "README.md"


class Readme(unittest.TestCase):
    def test_examples(self):
        block = README.read_text(encoding="utf-8").partition("```python\n")[2].partition("```")[0]
        names = {}
        examples = 0
        for row in block.splitlines():
            call, mark, answer = row.partition("  # ")
            if mark:
                with self.subTest(call.strip()):
                    self.assertEqual(eval(call, names), eval(answer, {}))
                examples += 1
            else:
                exec(row, names)
        self.assertGreater(examples, 0)


if __name__ == "__main__":
    unittest.main()
