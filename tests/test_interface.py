"""The names of the interface that have landed, where DOC.md lists them."""

import importlib
import inspect
import unittest

FUNCTIONS = {
    "boxes": {
        "all_boxes": ["document"],
        "find": ["document", "number"],
        "parent_of": ["document", "number"],
        "is_document": ["box"],
    },
    "texts": {
        "parse_document": ["text"],
        "print_document": ["document"],
    },
    "layout": {
        "places": ["scroller"],
        "length_of": ["scroller"],
        "range_of": ["scroller"],
        "fitted": ["document", "offsets"],
        "windows": ["document", "offsets"],
    },
    "pictures": {
        "picture": ["document", "offsets"],
        "under": ["document", "offsets", "row"],
    },
    "scrolling": {
        "scrolled": ["document", "offsets", "path", "amount"],
        "moved": ["document", "offsets", "moves"],
    },
    "edits": {
        "edited": ["document", "edit"],
        "anchor": ["scroller", "offset"],
        "offsets_after": ["document", "offsets", "later"],
    },
    "plain": {
        "do_deed": ["document", "offsets", "deed"],
        "plain_run": ["document", "deeds"],
    },
}

ERRORS = (
    "FrameError", "TextError", "NoSuchBox", "NotAScroller", "RefusedEdit", "NotBegun", "Busy", "NoneWaiting", "NotReady",
)


class Interface(unittest.TestCase):
    def test_functions_are_defined_in_their_files(self):
        for file, functions in FUNCTIONS.items():
            module = importlib.import_module(f"asyncframes.{file}")
            for name, parameters in functions.items():
                function = getattr(module, name)
                self.assertTrue(inspect.isfunction(function), name)
                self.assertEqual(function.__module__, f"asyncframes.{file}")
                self.assertEqual(list(inspect.signature(function).parameters), parameters)

    def test_errors_are_defined_in_their_file(self):
        module = importlib.import_module("asyncframes.errors")
        for name in ERRORS:
            error = getattr(module, name)
            self.assertTrue(inspect.isclass(error), name)
            self.assertEqual(error.__module__, "asyncframes.errors")

    def test_text_error_has_the_parameters_of_the_document(self):
        module = importlib.import_module("asyncframes.errors")
        error = module.TextError(message="too deep", place=4)
        self.assertEqual((error.place, error.message, str(error)), (4, "too deep", "too deep at 4"))


if __name__ == "__main__":
    unittest.main()
