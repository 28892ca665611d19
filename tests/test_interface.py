"""The names, arguments and files that the document lists."""

import inspect
import pathlib
import unittest

from pegdiscs import beside, errors, settings, towers, ways

FUNCTIONS = {
    settings: {
        "is_setting": ["thing"],
        "perfect": ["discs", "peg"],
        "moves": ["setting"],
        "moved": ["setting", "move"],
        "walked": ["setting", "moves"],
    },
    ways: {
        "toward": ["setting", "peg"],
        "choices": ["one", "other"],
        "far": ["one", "other"],
        "many_ways": ["one", "other"],
        "next_move": ["one", "other"],
        "ways": ["one", "other"],
        "way": ["one", "other"],
    },
    towers: {
        "setting_at": ["discs", "begin", "end", "number"],
        "number_of": ["setting", "begin", "end"],
    },
    beside: {
        "near_moves": ["setting"],
        "row_number": ["setting"],
        "row_setting": ["discs", "number"],
        "near_far": ["one", "other"],
        "near_way": ["one", "other"],
    },
}


class Interface(unittest.TestCase):
    def test_each_function_is_defined_in_its_file_with_its_arguments(self):
        for module, functions in FUNCTIONS.items():
            for name, arguments in functions.items():
                function = getattr(module, name)
                self.assertTrue(inspect.isfunction(function), name)
                self.assertEqual(function.__module__, module.__name__)
                self.assertEqual(list(inspect.signature(function).parameters), arguments)

    def test_the_package_holds_nothing_but_its_files(self):
        folder = pathlib.Path(errors.__file__).parent
        self.assertEqual(folder.name, "pegdiscs")
        there = sorted(path.name for path in folder.iterdir() if path.name != "__pycache__")
        self.assertEqual(
            there,
            ["__init__.py", "beside.py", "errors.py", "settings.py", "towers.py", "ways.py"],
        )


if __name__ == "__main__":
    unittest.main()
