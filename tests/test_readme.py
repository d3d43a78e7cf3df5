"""The README's examples tell what it says they tell."""

import re
import unittest
from pathlib import Path

README = Path(__file__).resolve().parent.parent / "README.md"
BLOCK = re.compile(r"```python\n(.*?)```", re.DOTALL)
EXAMPLE = re.compile(r"^(?P<ask>\S.*?\))\s+# (?P<told>'[^']*'|[^:;]+)", re.ASCII)


def refusal_or_value(ask, names):
    try:
        return repr(eval(ask, names))
    except (ValueError, LookupError) as error:
        fields = ", ".join(repr(field) for field in vars(error).values())
        return f"{type(error).__name__}({fields})"


class ReadmeTests(unittest.TestCase):
    def test_examples(self):
        blocks = BLOCK.findall(README.read_text(encoding="utf-8"))
        self.assertTrue(blocks)
        for block in blocks:
            names = {}
            for line in block.splitlines():
                example = EXAMPLE.match(line)
                if example is None:
                    self.assertNotIn("#", line)
                    exec(line, names)
                else:
                    told = refusal_or_value(example["ask"], names)
                    self.assertEqual(told, example["told"].strip(), line)


if __name__ == "__main__":
    unittest.main()
