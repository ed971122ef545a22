"""Runs the examples of examples.md: what stands below a line with >>> is what it returns or raises."""

import doctest
import pathlib
import unittest

from batchlimits.errors import BatchError

PATH = pathlib.Path(__file__).parent / "examples.md"


def read_examples(text):
    """Return tuples (point, code lines, expected text); each block between fences begins anew."""
    found = []
    point, code, expected = None, [], []
    for line in text.splitlines() + ["```"]:
        ends = line.startswith(("```", ">>> ")) or not line
        if expected and ends:
            found.append((point, code, "\n".join(expected)))
            code, expected = [], []
        if line.startswith("## "):
            point = int(line[3:])
        elif line.startswith(">>> "):
            code.append(line[4:])
        elif code and not ends:
            expected.append(line)
    return found


def shown_error(error):
    """Return an error as the document writes it: its name, and its field if it has one."""
    fields = ", ".join(f"{name}={value!r}" for name, value in vars(error).items())
    name = error.__class__.__name__
    return f"raises {name}({fields})" if fields else f"raises {name}"


def run_example(code):
    """Return what the last line returns or raises, as the document writes it."""
    names = {}
    for line in code[:-1]:
        exec(line, names)
    try:
        return repr(eval(code[-1], names))
    except BatchError as error:
        return shown_error(error)


class ExamplesTest(unittest.TestCase):
    def test_examples_are_as_the_document_shows_them(self):
        for point, code, expected in read_examples(PATH.read_text()):
            with self.subTest(point=point, code=code[-1]):
                self.assertEqual(run_example(code), expected)

    def test_all_examples_are_read(self):
        points = [point for point, _, _ in read_examples(PATH.read_text())]
        # Some points have two or three examples, and those of points 62 and 63 stand at point 64.
        more = [15, 16, 17, 32, 39, 41, 44, 52, 61, 61]
        self.assertEqual(points, sorted([*range(15, 62), *range(64, 70), *more]))

    def test_readme_shows_what_the_program_does(self):
        found = doctest.testfile(str(PATH.parent.parent / "README.md"), module_relative=False)
        self.assertGreater(found.attempted, 0)
        self.assertEqual(found.failed, 0)
