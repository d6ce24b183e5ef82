"""The examples of the interface as they stand in the document (examples.txt)."""

import os
import unittest

from roletalks.errors import TalkError


def told_error(error):
    """An error as the document writes it: its name and, if it has any, its fields."""
    fields = ", ".join([f"{name}={value!r}" for name, value in vars(error).items()])
    return error.__class__.__name__ + (f"({fields})" if fields else "")


def read_examples(text):
    """Pairs of a line of code and what stands below it, None if nothing does."""
    examples = []
    for line in text.splitlines():
        if line.startswith(">>> "):
            examples.append([line[4:], None])
        elif line:
            examples[-1][1] = line
    return examples


class ExampleTest(unittest.TestCase):
    def test_examples(self):
        place = os.path.join(os.path.dirname(os.path.abspath(__file__)), "examples.txt")
        with open(place, encoding="ascii") as file:
            examples = read_examples(file.read())
        self.assertGreater(len(examples), 8)
        names = {}
        for code, expected in examples:
            with self.subTest(code):
                self.run_one(code, expected, names)

    def run_one(self, code, expected, names):
        if expected is None:
            exec(code, names)
        elif expected.startswith("raises "):
            with self.assertRaises(TalkError) as caught:
                eval(code, names)
            self.assertEqual("raises " + told_error(caught.exception), expected)
        else:
            self.assertEqual(repr(eval(code, names)), expected)


if __name__ == "__main__":
    unittest.main()
