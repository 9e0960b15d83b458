import os
import unittest

from blindrepair.errors import RepairError

EXAMPLES = os.path.join(os.path.dirname(os.path.abspath(__file__)), "examples.txt")


def examples():
    """Pairs of a line behind >>> and the line below it, None if there is none."""
    with open(EXAMPLES, encoding="ascii") as file:
        lines = file.read().splitlines()
    found = []
    for line in lines:
        if line.startswith(">>> "):
            found.append((line[4:], None))
        else:
            found[-1] = (found[-1][0], line)
    return found


def outcome(line, names):
    """What the document writes below a line: the value, or the error that is raised."""
    try:
        return repr(eval(line, names))
    except RepairError as error:
        fields = ", ".join(repr(field) for field in vars(error).values())
        return f"raises {type(error).__name__}({fields})"


class ExampleTests(unittest.TestCase):

    def test_the_examples_of_the_document(self):
        names = {}
        compared = 0
        for line, expected in examples():
            with self.subTest(line):
                if expected is None:
                    exec(line, names)
                else:
                    self.assertEqual(outcome(line, names), expected)
                    compared += 1
        self.assertEqual(compared, 70)
