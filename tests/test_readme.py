"""The examples of README.md print what their comments tell."""

import contextlib
import io
import pathlib
import re
import unittest

README = pathlib.Path(__file__).resolve().parent.parent / "README.md"


class Examples(unittest.TestCase):
    def test_examples(self):
        names = {}
        blocks = re.findall(r"```python\n(.*?)```", README.read_text(), re.S)
        self.assertGreater(len(blocks), 4)
        for block in blocks:
            told = [line.partition("# ")[2] for line in block.splitlines() if "# " in line]
            printed = io.StringIO()
            with contextlib.redirect_stdout(printed):
                exec(block, names)
            self.assertEqual(printed.getvalue().splitlines(), told)


if __name__ == "__main__":
    unittest.main()
