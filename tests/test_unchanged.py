"""Point 2: arguments stay as they are, answers are new, errors change nothing."""

import copy
import unittest

from samples import SAMPLE, SAMPLE_TEXT, block, nested, scroller

from asyncframes.boxes import all_boxes, find, is_document, parent_of
from asyncframes.edits import anchor, edited, offsets_after
from asyncframes.errors import FrameError, TextError
from asyncframes.layout import fitted, length_of, places, range_of, windows
from asyncframes.pictures import picture, under
from asyncframes.plain import do_deed, plain_run
from asyncframes.scrolling import moved, scrolled
from asyncframes.texts import parse_document, print_document

FITTING = {1: 45, 3: 21, 5: 10, 10: 0}
WILD = {999: 3, 5: 10 ** 6, 3: -4, 2: 7}

LATER = edited(SAMPLE, ("resize", 2, 5))
DEEDS = [
    ("moves", ((5, 7), (3, 9), (12, 5), (2, 4))),
    ("edit", ("insert", 3, 0, scroller(20, 5, block(21, 9)))),
    ("set", 20, 3),
    ("edit", ("remove", 4)),
    ("edit", ("resize", 1, 80)),
]

# Calls of stage 2 with all that they are handed, some that change nothing.
CALLS = (
    (picture, (SAMPLE, FITTING)),
    (under, (SAMPLE, FITTING, 30)),
    (under, (SAMPLE, FITTING, -1)),
    (scrolled, (SAMPLE, FITTING, [5, 3, 1], -25)),
    (scrolled, (SAMPLE, FITTING, [5, 3, 1], 0)),
    (scrolled, (SAMPLE, FITTING, [], 7)),
    (moved, (SAMPLE, FITTING, [(5, -3), (3, 4), (5, 9), (12, 3)])),
    (moved, (SAMPLE, FITTING, [])),
    (anchor, (SAMPLE, 45)),
    (offsets_after, (SAMPLE, FITTING, LATER)),
    (offsets_after, (SAMPLE, FITTING, SAMPLE)),
    (do_deed, (SAMPLE, FITTING, DEEDS[0])),
    (do_deed, (SAMPLE, FITTING, DEEDS[1])),
    (do_deed, (SAMPLE, FITTING, ("moves", ()))),
    (do_deed, (SAMPLE, FITTING, ("set", 1, 3))),
    (do_deed, (SAMPLE, FITTING, ("set", 1, 45))),
    (plain_run, (SAMPLE, DEEDS)),
    (plain_run, (SAMPLE, [])),
)

# Calls that raise an error.
WRONG_CALLS = (
    (edited, (SAMPLE, ("insert", 12, 0, block(20)))),
    (edited, (SAMPLE, ("insert", 2, 0, block(20)))),
    (edited, (SAMPLE, ("insert", 1, 9, block(20)))),
    (edited, (SAMPLE, ("insert", 1, 0, block(2)))),
    (edited, (SAMPLE, ("remove", 1))),
    (edited, (SAMPLE, ("resize", 2, 1001))),
    (do_deed, (SAMPLE, FITTING, ("set", 2, 0))),
    (do_deed, (SAMPLE, FITTING, ("set", 12, 0))),
    (do_deed, (SAMPLE, FITTING, ("edit", ("remove", 12)))),
    (plain_run, (SAMPLE, DEEDS + [("set", 4, 0)])),
    (plain_run, (SAMPLE, DEEDS + [("edit", ("remove", 1))])),
)


def dictionaries_of(answer):
    """The dictionaries of an answer that may be a tuple of several things."""
    things = answer if isinstance(answer, tuple) else (answer,)
    return [thing for thing in things if isinstance(thing, dict)]


class Arguments(unittest.TestCase):
    def test_offsets_stay(self):
        for function in (fitted, windows):
            offsets = dict(FITTING)
            function(SAMPLE, offsets)
            self.assertEqual(list(offsets.items()), list(FITTING.items()))

    def test_unfitting_offsets_stay(self):
        for offsets in (WILD, {}, {1: -1}, {12: 0}):
            handed = dict(offsets)
            fitted(SAMPLE, handed)
            self.assertEqual(list(handed.items()), list(offsets.items()))

    def test_documents_stay(self):
        for function in (all_boxes, is_document, print_document, places, length_of, range_of):
            document = copy.deepcopy(SAMPLE)
            function(document)
            self.assertEqual(document, SAMPLE)
        document = copy.deepcopy(SAMPLE)
        find(document, 5)
        parent_of(document, 5)
        fitted(document, dict(WILD))
        windows(document, dict(FITTING))
        self.assertEqual(document, SAMPLE)

    def test_arguments_of_right_calls_stay(self):
        for function, arguments in CALLS:
            handed = copy.deepcopy(arguments)
            function(*handed)
            self.assertEqual(handed, arguments, function)
            for one, other in zip(handed, arguments):
                if isinstance(one, dict):
                    self.assertEqual(list(one), list(other), function)

    def test_arguments_of_edits_stay(self):
        for edit in (deed[1] for deed in DEEDS if deed[0] == "edit"):
            handed = copy.deepcopy((SAMPLE, edit))
            edited(*handed)
            self.assertEqual(handed, (SAMPLE, edit))


class Answers(unittest.TestCase):
    def assert_new(self, function, *arguments):
        first = function(*arguments)
        kept = copy.deepcopy(first)
        second = function(*arguments)
        self.assertIsNot(first, second)
        first.clear()
        self.assertEqual(second, kept)
        second.clear()
        self.assertEqual(function(*arguments), kept)

    def test_lists_are_new(self):
        self.assert_new(all_boxes, SAMPLE)
        self.assert_new(all_boxes, scroller(1, 0))
        self.assert_new(places, SAMPLE)
        self.assert_new(places, scroller(1, 0))

    def test_dictionaries_are_new(self):
        self.assert_new(windows, SAMPLE, FITTING)
        for offsets in (FITTING, WILD, {}):
            self.assert_new(fitted, SAMPLE, offsets)

    def test_lists_and_dictionaries_of_stage_two_are_new(self):
        self.assert_new(picture, SAMPLE, FITTING)
        self.assert_new(picture, scroller(1, 0), {1: 0})
        self.assert_new(moved, SAMPLE, FITTING, [(5, 1)])
        self.assert_new(moved, SAMPLE, FITTING, ())
        self.assert_new(offsets_after, SAMPLE, FITTING, LATER)
        self.assert_new(offsets_after, SAMPLE, FITTING, SAMPLE)

    def test_offsets_that_are_returned_are_new(self):
        for function, arguments in CALLS:
            handed = copy.deepcopy(arguments)
            answer = function(*handed)
            kept = copy.deepcopy(answer)
            for offsets in dictionaries_of(answer):
                offsets[1] = 777
                offsets[888] = 8
            self.assertEqual(handed, arguments, function)
            self.assertEqual(function(*handed), kept, function)

    def test_offsets_that_are_returned_stay(self):
        for function, arguments in CALLS:
            handed = copy.deepcopy(arguments)
            answer = function(*handed)
            kept = copy.deepcopy(answer)
            for thing in handed:
                if isinstance(thing, (dict, list)):
                    thing.clear()
            self.assertEqual(answer, kept, function)

    def test_fitted_offsets_are_not_the_ones_handed_in(self):
        offsets = dict(FITTING)
        found = fitted(SAMPLE, offsets)
        self.assertEqual(found, offsets)
        found[1] = 3
        found[77] = 4
        self.assertEqual(offsets, FITTING)
        self.assertEqual(fitted(SAMPLE, offsets), FITTING)

    def test_answers_stay_when_arguments_change(self):
        offsets = dict(FITTING)
        found = fitted(SAMPLE, offsets)
        laid_out = windows(SAMPLE, offsets)
        kept = dict(laid_out)
        offsets[1] = 0
        self.assertEqual(found, FITTING)
        self.assertEqual(laid_out, kept)
        self.assertEqual(fitted(SAMPLE, offsets)[1], 0)
        self.assertEqual(windows(SAMPLE, offsets)[2], (0, 0, 30))

    def test_an_answer_does_not_depend_on_earlier_calls(self):
        other = scroller(1, 50, block(2, 70), scroller(3, 10, block(5, 30)))
        for _ in range(2):
            self.assertEqual([box[1] for box in all_boxes(other)], [1, 2, 3, 5])
            self.assertEqual(fitted(other, FITTING), {1: 30, 3: 20})
            self.assertEqual(windows(other, {1: 30, 3: 20})[5], (20, 40, 50))
            self.assertEqual(places(other), [0, 70])
            self.assertEqual(parent_of(other, 5), 3)
            self.assertEqual(fitted(SAMPLE, FITTING), FITTING)
            self.assertEqual(parent_of(SAMPLE, 9), 3)
            self.assertEqual(places(SAMPLE), [0, 30, 110, 130])
            self.assertFalse(is_document(nested(5)))
            self.assertTrue(is_document(other))


class Errors(unittest.TestCase):
    def test_an_error_changes_no_later_answer(self):
        wrong = ("s1:2[b3:4?]", "s1:2[b3:4]]", "s1:2[b3:4", "s1:2[b1000:4]", "s1:2[b3:4 b3:4]", nested_text(), many_text())
        for text in wrong:
            seen = []
            for _ in range(2):
                with self.assertRaises(TextError) as caught:
                    parse_document(text)
                seen.append((caught.exception.message, caught.exception.place))
                self.assertEqual(parse_document(SAMPLE_TEXT), SAMPLE)
                self.assertEqual(parse_document("s1:2[b3:4]"), scroller(1, 2, block(3, 4)))
            self.assertEqual(seen[0], seen[1])

    def test_an_error_changes_nothing_that_is_handed_in(self):
        for function, arguments in WRONG_CALLS:
            handed = copy.deepcopy(arguments)
            for _ in range(2):
                with self.assertRaises(FrameError):
                    function(*handed)
                self.assertEqual(handed, arguments)

    def test_right_calls_answer_alike_after_errors(self):
        expected = [function(*arguments) for function, arguments in CALLS]
        for wrong, wrong_arguments in WRONG_CALLS:
            self.assertRaises(FrameError, wrong, *wrong_arguments)
            self.assertEqual([function(*arguments) for function, arguments in CALLS], expected)


def nested_text():
    return print_document(nested(5))


def many_text():
    return print_document(scroller(1, 2, *[block(number) for number in range(2, 42)]))


if __name__ == "__main__":
    unittest.main()
