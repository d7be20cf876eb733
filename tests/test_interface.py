"""The names of the interface, where DOC.md lists them."""

import importlib
import inspect
import unittest

FUNCTIONS = {
    "boxes": {
        "all_boxes": ["document"],
        "find": ["document", "number"],
        "parent_of": ["document", "number"],
        "is_document": ["box"],
    },
    "texts": {
        "parse_document": ["text"],
        "print_document": ["document"],
    },
    "layout": {
        "places": ["scroller"],
        "length_of": ["scroller"],
        "range_of": ["scroller"],
        "fitted": ["document", "offsets"],
        "windows": ["document", "offsets"],
    },
    "pictures": {
        "picture": ["document", "offsets"],
        "under": ["document", "offsets", "row"],
    },
    "scrolling": {
        "scrolled": ["document", "offsets", "path", "amount"],
        "moved": ["document", "offsets", "moves"],
    },
    "edits": {
        "edited": ["document", "edit"],
        "anchor": ["scroller", "offset"],
        "offsets_after": ["document", "offsets", "later"],
    },
    "plain": {
        "do_deed": ["document", "offsets", "deed"],
        "plain_run": ["document", "deeds"],
    },
    "quiet": {
        "is_quiet": ["system"],
        "to_quiet": ["system"],
        "inner": ["system", "step"],
    },
}

DOCUMENT = ("scroller", 1, 10, (("block", 2, 20),))

METHODS = {
    ("main_thread", "MainThread"): {
        "__init__": ["document"],
        "do": ["deed"],
        "hold": ["number"],
        "release": ["number"],
        "tell": ["moves"],
    },
    ("painter", "State"): {
        "__init__": ["number", "document", "base", "held", "included"],
        "view": ["moves"],
    },
    ("painter", "Painter"): {
        "__init__": ["state"],
        "scroll": ["row", "amount"],
        "answer": ["allowed"],
        "receive": ["state"],
        "paint": [],
        "take": [],
        "frame": [],
    },
    ("systems", "System"): {
        "__init__": ["document"],
        "edit": ["edit"],
        "set_offset": ["number", "offset"],
        "hold": ["number"],
        "release": ["number"],
        "begin": [],
        "commit": [],
        "scroll": ["row", "amount"],
        "answer": ["allowed"],
        "paint": [],
        "take": [],
        "draw": [],
        "frames": [],
        "histories": [],
        "fork": [],
    },
}

FIELDS = {
    ("main_thread", "MainThread"): ["document", "offsets", "held", "deeds"],
    ("painter", "State"): ["number", "document", "base", "held", "included", "painted"],
    ("painter", "Painter"): ["active", "pending", "moves", "waiting"],
    ("systems", "System"): ["main", "painter"],
}

ERRORS = (
    "FrameError", "TextError", "NoSuchBox", "NotAScroller", "RefusedEdit", "NotBegun", "Busy", "NoneWaiting", "NotReady",
)


class Interface(unittest.TestCase):
    def test_functions_are_defined_in_their_files(self):
        for file, functions in FUNCTIONS.items():
            module = importlib.import_module(f"asyncframes.{file}")
            for name, parameters in functions.items():
                function = getattr(module, name)
                self.assertTrue(inspect.isfunction(function), name)
                self.assertEqual(function.__module__, f"asyncframes.{file}")
                self.assertEqual(list(inspect.signature(function).parameters), parameters)

    def test_methods_are_defined_in_their_classes(self):
        for (file, name), methods in METHODS.items():
            own = getattr(importlib.import_module(f"asyncframes.{file}"), name)
            self.assertTrue(inspect.isclass(own), name)
            self.assertEqual(own.__module__, f"asyncframes.{file}")
            for method, parameters in methods.items():
                function = vars(own)[method]
                self.assertTrue(inspect.isfunction(function), (name, method))
                self.assertEqual(list(inspect.signature(function).parameters), ["self"] + parameters)

    def test_fields_are_set_when_an_object_is_created(self):
        for (file, name), fields in FIELDS.items():
            own = getattr(importlib.import_module(f"asyncframes.{file}"), name)
            state = importlib.import_module("asyncframes.painter").State(0, DOCUMENT, {1: 0}, [], 0)
            arguments = {"State": (0, DOCUMENT, {1: 0}, [], 0), "Painter": (state,)}.get(name, (DOCUMENT,))
            for field in fields:
                self.assertIn(field, vars(own(*arguments)), (name, field))

    def test_kinds_of_the_fields(self):
        system = importlib.import_module("asyncframes.systems").System(DOCUMENT)
        for values in (
            system.main.held, system.main.deeds, system.painter.moves, system.painter.waiting,
            system.painter.active.held, system.painter.active.painted,
        ):
            self.assertIs(type(values), list)
        for values in (system.main.offsets, system.painter.active.base):
            self.assertIs(type(values), dict)

    def test_errors_are_defined_in_their_file(self):
        module = importlib.import_module("asyncframes.errors")
        for name in ERRORS:
            error = getattr(module, name)
            self.assertTrue(inspect.isclass(error), name)
            self.assertEqual(error.__module__, "asyncframes.errors")

    def test_text_error_has_the_parameters_of_the_document(self):
        module = importlib.import_module("asyncframes.errors")
        error = module.TextError(message="too deep", place=4)
        self.assertEqual((error.place, error.message, str(error)), (4, "too deep", "too deep at 4"))


if __name__ == "__main__":
    unittest.main()
