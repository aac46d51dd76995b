"""The examples of the interface, and those of README.md."""

import doctest
import pathlib
import unittest

HERE = pathlib.Path(__file__).resolve().parent


class Examples(unittest.TestCase):
    def check_file(self, path):
        result = doctest.testfile(str(path), module_relative=False)
        self.assertGreater(result.attempted, 0)
        self.assertEqual(result.failed, 0)

    def test_examples(self):
        self.check_file(HERE / "examples.txt")

    def test_readme(self):
        self.check_file(HERE.parent / "README.md")


if __name__ == "__main__":
    unittest.main()
