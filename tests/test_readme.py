"""What README.md tells of the program is so."""

import pathlib
import re
import unittest

from slanttables import errors

README = pathlib.Path(__file__).resolve().parent.parent / "README.md"


def code_rows():
    """Tell the rows of all blocks of Python in README.md, in order."""
    blocks = re.findall(r"```python\n(.*?)```", README.read_text("utf-8"), re.DOTALL)
    return [row for block in blocks for row in block.splitlines() if row]


class Readme(unittest.TestCase):
    def test_examples(self):
        names = {}
        answered = []
        for row in code_rows():
            code, mark, told = row.partition("  # ")
            if not mark:
                exec(code, names)
                continue
            answered.append(code)
            with self.subTest(code.strip()):
                if ": " in told:
                    refusal = getattr(errors, told.partition(":")[0])
                    with self.assertRaises(refusal):
                        eval(code, names)
                else:
                    self.assertEqual(repr(eval(code, names)), told.strip())
        self.assertGreater(len(answered), 50)

    def test_each_module_of_the_package_is_named(self):
        text = README.read_text("utf-8")
        for path in (README.parent / "slanttables").glob("[a-z]*.py"):
            self.assertIn(f"| `slanttables.{path.stem}` |", text)


if __name__ == "__main__":
    unittest.main()
