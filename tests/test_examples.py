"""The document's examples, word for word: one file of tests/examples for each chapter."""

import importlib
import pathlib
import unittest

from tests.helper import examples_in, run_examples

FOLDER = pathlib.Path(__file__).parent / "examples"
PACKAGE = pathlib.Path(__file__).parent.parent / "lentblocks"
CHAPTERS = [
    "board", "bound", "chains", "changes", "desk", "first", "hidden", "moving", "opponents",
    "pools", "reach", "rounding", "rows", "rules", "stands", "surely", "texts", "waste",
]


def all_names():
    """All functions and classes of the package by their names."""
    names = {}
    for path in sorted(PACKAGE.glob("*.py")):
        if path.stem != "__init__":
            names.update(vars(importlib.import_module("lentblocks." + path.stem)))
    return names


class Examples(unittest.TestCase):
    def test_each_chapter(self):
        paths = sorted(FOLDER.glob("*.txt"))
        self.assertEqual([path.stem for path in paths], CHAPTERS)
        for path in paths:
            with self.subTest(chapter=path.stem):
                text = path.read_text()
                self.assertGreater(len(examples_in(text)), 3)
                run_examples(self, text, all_names())


if __name__ == "__main__":
    unittest.main()
