"""Point 2: arguments stay as they are, answers are new, errors change nothing."""

import copy
import unittest

from samples import SAMPLE, SAMPLE_TEXT, block, nested, scroller

from asyncframes.boxes import all_boxes, find, is_document, parent_of
from asyncframes.errors import TextError
from asyncframes.layout import fitted, length_of, places, range_of, windows
from asyncframes.texts import parse_document, print_document

FITTING = {1: 45, 3: 21, 5: 10, 10: 0}
WILD = {999: 3, 5: 10 ** 6, 3: -4, 2: 7}


class Arguments(unittest.TestCase):
    def test_offsets_stay(self):
        for function in (fitted, windows):
            offsets = dict(FITTING)
            function(SAMPLE, offsets)
            self.assertEqual(list(offsets.items()), list(FITTING.items()))

    def test_unfitting_offsets_stay(self):
        for offsets in (WILD, {}, {1: -1}, {12: 0}):
            handed = dict(offsets)
            fitted(SAMPLE, handed)
            self.assertEqual(list(handed.items()), list(offsets.items()))

    def test_documents_stay(self):
        for function in (all_boxes, is_document, print_document, places, length_of, range_of):
            document = copy.deepcopy(SAMPLE)
            function(document)
            self.assertEqual(document, SAMPLE)
        document = copy.deepcopy(SAMPLE)
        find(document, 5)
        parent_of(document, 5)
        fitted(document, dict(WILD))
        windows(document, dict(FITTING))
        self.assertEqual(document, SAMPLE)


class Answers(unittest.TestCase):
    def assert_new(self, function, *arguments):
        first = function(*arguments)
        kept = copy.deepcopy(first)
        second = function(*arguments)
        self.assertIsNot(first, second)
        first.clear()
        self.assertEqual(second, kept)
        second.clear()
        self.assertEqual(function(*arguments), kept)

    def test_lists_are_new(self):
        self.assert_new(all_boxes, SAMPLE)
        self.assert_new(all_boxes, scroller(1, 0))
        self.assert_new(places, SAMPLE)
        self.assert_new(places, scroller(1, 0))

    def test_dictionaries_are_new(self):
        self.assert_new(windows, SAMPLE, FITTING)
        for offsets in (FITTING, WILD, {}):
            self.assert_new(fitted, SAMPLE, offsets)

    def test_fitted_offsets_are_not_the_ones_handed_in(self):
        offsets = dict(FITTING)
        found = fitted(SAMPLE, offsets)
        self.assertEqual(found, offsets)
        found[1] = 3
        found[77] = 4
        self.assertEqual(offsets, FITTING)
        self.assertEqual(fitted(SAMPLE, offsets), FITTING)

    def test_answers_stay_when_arguments_change(self):
        offsets = dict(FITTING)
        found = fitted(SAMPLE, offsets)
        laid_out = windows(SAMPLE, offsets)
        kept = dict(laid_out)
        offsets[1] = 0
        self.assertEqual(found, FITTING)
        self.assertEqual(laid_out, kept)
        self.assertEqual(fitted(SAMPLE, offsets)[1], 0)
        self.assertEqual(windows(SAMPLE, offsets)[2], (0, 0, 30))

    def test_an_answer_does_not_depend_on_earlier_calls(self):
        other = scroller(1, 50, block(2, 70), scroller(3, 10, block(5, 30)))
        for _ in range(2):
            self.assertEqual([box[1] for box in all_boxes(other)], [1, 2, 3, 5])
            self.assertEqual(fitted(other, FITTING), {1: 30, 3: 20})
            self.assertEqual(windows(other, {1: 30, 3: 20})[5], (20, 40, 50))
            self.assertEqual(places(other), [0, 70])
            self.assertEqual(parent_of(other, 5), 3)
            self.assertEqual(fitted(SAMPLE, FITTING), FITTING)
            self.assertEqual(parent_of(SAMPLE, 9), 3)
            self.assertEqual(places(SAMPLE), [0, 30, 110, 130])
            self.assertFalse(is_document(nested(5)))
            self.assertTrue(is_document(other))


class Errors(unittest.TestCase):
    def test_an_error_changes_no_later_answer(self):
        wrong = ("s1:2[b3:4?]", "s1:2[b3:4]]", "s1:2[b3:4", "s1:2[b1000:4]", "s1:2[b3:4 b3:4]", nested_text(), many_text())
        for text in wrong:
            seen = []
            for _ in range(2):
                with self.assertRaises(TextError) as caught:
                    parse_document(text)
                seen.append((caught.exception.message, caught.exception.place))
                self.assertEqual(parse_document(SAMPLE_TEXT), SAMPLE)
                self.assertEqual(parse_document("s1:2[b3:4]"), scroller(1, 2, block(3, 4)))
            self.assertEqual(seen[0], seen[1])


def nested_text():
    return print_document(nested(5))


def many_text():
    return print_document(scroller(1, 2, *[block(number) for number in range(2, 42)]))


if __name__ == "__main__":
    unittest.main()
