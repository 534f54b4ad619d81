"""What README.md shows is so."""

import os
import re
import unittest

README = os.path.join(os.path.dirname(os.path.dirname(os.path.abspath(__file__))), "README.md")


class Readme(unittest.TestCase):
    def test_examples_hold(self):
        with open(README, encoding="utf-8") as file:
            blocks = re.findall(r"```python\n(.*?)```", file.read(), re.S)
        self.assertGreaterEqual(len(blocks), 3)
        for block in blocks:
            exec(block, {})


if __name__ == "__main__":
    unittest.main()
