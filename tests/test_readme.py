"""The example in README.md comes to what it says behind each `#`."""

import os
import re
import unittest

README = os.path.join(os.path.dirname(os.path.dirname(os.path.abspath(__file__))), "README.md")


class Example(unittest.TestCase):
    def test_each_row(self):
        with open(README, encoding="utf-8") as file:
            rows = re.search(r"```python\n(.*?)```", file.read(), re.DOTALL).group(1).splitlines()
        names = {}
        looked_at = 0
        for row in rows:
            asked, sign, answer = row.partition(" # ")
            if sign:
                looked_at += 1
                self.assertEqual(eval(asked, names), eval(answer, names), row)
            else:
                exec(asked, names)
        self.assertGreater(looked_at, 20)


if __name__ == "__main__":
    unittest.main()
