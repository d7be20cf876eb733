import itertools
import unittest

from samples import SAMPLE, block, nested, scroller, with_boxes

from asyncframes.boxes import all_boxes, find, is_document
from asyncframes.edits import anchor, edited, offsets_after
from asyncframes.errors import FrameError, NoSuchBox, NotAScroller, RefusedEdit
from asyncframes.layout import places, range_of
from asyncframes.texts import parse_document, print_document

SMALL = scroller(1, 100, block(2, 80), scroller(3, 60, block(4, 50)), block(5, 30))
# No document has a box with one of these numbers.
NO_NUMBERS = (-1, 0, 12, 999, 1000)


class EditCase(unittest.TestCase):
    def assert_edited(self, document, edit, text):
        found = edited(document, edit)
        self.assertEqual(print_document(found), text, edit)
        self.assertEqual(found, parse_document(text), edit)

    def assert_refused(self, document, edit, error):
        with self.assertRaises(FrameError) as caught:
            edited(document, edit)
        self.assertIs(type(caught.exception), error, edit)


class Insert(EditCase):
    def test_at_each_index(self):
        new = block(9, 7)
        self.assert_edited(SMALL, ("insert", 1, 0, new), "s1:100[b9:7 b2:80 s3:60[b4:50] b5:30]")
        self.assert_edited(SMALL, ("insert", 1, 1, new), "s1:100[b2:80 b9:7 s3:60[b4:50] b5:30]")
        self.assert_edited(SMALL, ("insert", 1, 2, new), "s1:100[b2:80 s3:60[b4:50] b9:7 b5:30]")
        self.assert_edited(SMALL, ("insert", 1, 3, new), "s1:100[b2:80 s3:60[b4:50] b5:30 b9:7]")

    def test_into_a_scroller_within(self):
        self.assert_edited(SMALL, ("insert", 3, 0, block(9, 7)), "s1:100[b2:80 s3:60[b9:7 b4:50] b5:30]")
        self.assert_edited(SMALL, ("insert", 3, 1, block(9, 7)), "s1:100[b2:80 s3:60[b4:50 b9:7] b5:30]")

    def test_into_a_scroller_without_parts(self):
        self.assert_edited(scroller(1, 5), ("insert", 1, 0, block(2, 3)), "s1:5[b2:3]")
        self.assert_refused(scroller(1, 5), ("insert", 1, 1, block(2, 3)), RefusedEdit)
        self.assert_refused(scroller(1, 5), ("insert", 1, -1, block(2, 3)), RefusedEdit)

    def test_a_scroller_with_parts(self):
        new = scroller(9, 7, block(8, 6), scroller(7, 5))
        self.assert_edited(SMALL, ("insert", 1, 1, new), "s1:100[b2:80 s9:7[b8:6 s7:5[]] s3:60[b4:50] b5:30]")

    def test_index_below_zero_or_too_great(self):
        for index in (-1000, -4, -3, -1, 4, 5, 1000):
            self.assert_refused(SMALL, ("insert", 1, index, block(9)), RefusedEdit)
        for index in (-2, -1, 2, 3):
            self.assert_refused(SMALL, ("insert", 3, index, block(9)), RefusedEdit)

    def test_into_a_block(self):
        for number in (2, 4, 5):
            self.assert_refused(SMALL, ("insert", number, 0, block(9)), NotAScroller)

    def test_into_a_number_that_no_box_has(self):
        for number in NO_NUMBERS + (9,):
            self.assert_refused(SMALL, ("insert", number, 0, block(9)), NoSuchBox)

    def test_a_number_that_is_there_already(self):
        for number in (1, 2, 3, 4, 5):
            self.assert_refused(SMALL, ("insert", 1, 0, block(number)), RefusedEdit)
            self.assert_refused(SMALL, ("insert", 3, 1, scroller(9, 5, block(8), block(number))), RefusedEdit)
        self.assert_refused(SMALL, ("insert", 1, 0, scroller(9, 5, block(8), block(8))), RefusedEdit)
        self.assert_refused(SMALL, ("insert", 1, 0, scroller(9, 5, block(9))), RefusedEdit)

    def test_limits_of_numbers(self):
        for number, error in ((-1, True), (0, True), (6, False), (999, False), (1000, True), (10 ** 9, True)):
            for box in (block(number), scroller(number, 10), scroller(9, 10, block(number))):
                self.assert_limit(SMALL, ("insert", 3, 0, box), error)

    def test_limits_of_heights(self):
        for height, error in ((-1, True), (0, False), (1000, False), (1001, True), (-10 ** 9, True)):
            for box in (block(9, height), scroller(9, height), scroller(9, 10, block(8, height))):
                self.assert_limit(SMALL, ("insert", 1, 3, box), error)

    def test_limits_of_many_boxes(self):
        self.assert_limit(with_boxes(39), ("insert", 1, 5, block(900)), False)
        self.assert_limit(with_boxes(40), ("insert", 1, 5, block(900)), True)
        self.assert_limit(with_boxes(38), ("insert", 1, 5, scroller(900, 10, block(901))), False)
        self.assert_limit(with_boxes(39), ("insert", 1, 5, scroller(900, 10, block(901))), True)
        for many, error in ((35, False), (36, True)):
            new = scroller(900, 10, *[block(number) for number in range(901, 900 + many)])
            self.assert_limit(SMALL, ("insert", 1, 0, new), error)

    def test_limits_of_scrollers_within_one_another(self):
        self.assert_limit(nested(3), ("insert", 3, 0, scroller(9, 10)), False)
        self.assert_limit(nested(4), ("insert", 4, 0, scroller(9, 10)), True)
        self.assert_limit(nested(4), ("insert", 4, 0, block(9, 10)), False)
        self.assert_limit(nested(4), ("insert", 3, 1, scroller(9, 10)), False)
        self.assert_limit(nested(3), ("insert", 3, 0, scroller(9, 10, scroller(8, 10))), True)
        self.assert_limit(nested(2), ("insert", 2, 0, scroller(9, 10, scroller(8, 10))), False)

    def test_a_box_far_beyond_the_limits(self):
        box = block(900)
        for number in range(1, 200):
            box = scroller(number, 10, box)
        self.assert_refused(scroller(950, 10), ("insert", 950, 0, box), RefusedEdit)

    def assert_limit(self, document, edit, error):
        if error:
            self.assert_refused(document, edit, RefusedEdit)
        else:
            found = edited(document, edit)
            self.assertTrue(is_document(found))
            self.assertEqual(find(found, edit[1])[3][edit[2]], edit[3])


class Remove(EditCase):
    def test_blocks(self):
        self.assert_edited(SMALL, ("remove", 2), "s1:100[s3:60[b4:50] b5:30]")
        self.assert_edited(SMALL, ("remove", 4), "s1:100[b2:80 s3:60[] b5:30]")
        self.assert_edited(SMALL, ("remove", 5), "s1:100[b2:80 s3:60[b4:50]]")

    def test_a_scroller_with_all_that_it_contains(self):
        self.assert_edited(SMALL, ("remove", 3), "s1:100[b2:80 b5:30]")
        self.assert_edited(SAMPLE, ("remove", 3), "s1:100[b2:30 s10:20[] b11:15]")
        self.assert_edited(SAMPLE, ("remove", 5), "s1:100[b2:30 s3:80[b4:50 b9:20] s10:20[] b11:15]")
        self.assert_edited(SAMPLE, ("remove", 10), "s1:100[b2:30 s3:80[b4:50 s5:40[b6:25 b7:0 b8:35] b9:20] b11:15]")

    def test_the_only_part(self):
        self.assert_edited(scroller(1, 5, block(2)), ("remove", 2), "s1:5[]")

    def test_the_root(self):
        self.assert_refused(SMALL, ("remove", 1), RefusedEdit)
        self.assert_refused(scroller(7, 5), ("remove", 7), RefusedEdit)
        self.assert_refused(scroller(7, 5, scroller(1, 5)), ("remove", 7), RefusedEdit)
        self.assert_edited(scroller(7, 5, scroller(1, 5)), ("remove", 1), "s7:5[]")

    def test_a_number_that_no_box_has(self):
        for number in NO_NUMBERS:
            self.assert_refused(SMALL, ("remove", number), NoSuchBox)
            self.assert_refused(scroller(7, 5), ("remove", number), NoSuchBox)

    def test_what_was_removed_is_gone(self):
        later = edited(SAMPLE, ("remove", 3))
        for number in (3, 4, 5, 6, 7, 8, 9):
            self.assert_refused(later, ("remove", number), NoSuchBox)
            self.assertEqual(edited(later, ("insert", 10, 0, block(number)))[3][1][3], (block(number),))


class Resize(EditCase):
    def test_a_block(self):
        self.assert_edited(SMALL, ("resize", 2, 5), "s1:100[b2:5 s3:60[b4:50] b5:30]")
        self.assert_edited(SMALL, ("resize", 4, 5), "s1:100[b2:80 s3:60[b4:5] b5:30]")

    def test_a_scroller_keeps_its_parts(self):
        self.assert_edited(SMALL, ("resize", 3, 5), "s1:100[b2:80 s3:5[b4:50] b5:30]")
        self.assert_edited(SMALL, ("resize", 1, 5), "s1:5[b2:80 s3:60[b4:50] b5:30]")
        self.assert_edited(scroller(7, 5), ("resize", 7, 9), "s7:9[]")

    def test_to_the_height_that_it_has(self):
        for box in all_boxes(SAMPLE):
            self.assertEqual(edited(SAMPLE, ("resize", box[1], box[2])), SAMPLE)

    def test_limits(self):
        for number in (1, 2, 3, 4, 5):
            for height in (0, 1, 999, 1000):
                later = edited(SMALL, ("resize", number, height))
                self.assertEqual([box[1] for box in all_boxes(later)], [1, 2, 3, 4, 5])
                for box in all_boxes(later):
                    expected = height if box[1] == number else find(SMALL, box[1])[2]
                    self.assertEqual(box[2], expected, (number, height))
            for height in (-10 ** 9, -1, 1001, 10 ** 9):
                self.assert_refused(SMALL, ("resize", number, height), RefusedEdit)

    def test_a_number_that_no_box_has(self):
        for number in NO_NUMBERS:
            self.assert_refused(SMALL, ("resize", number, 10), NoSuchBox)


class OrderOfErrors(EditCase):
    def test_no_such_box_comes_first(self):
        for box in (block(9), block(2), block(0), block(9, 1001), nested(5)):
            for index in (-1, 0, 99):
                self.assert_refused(SMALL, ("insert", 77, index, box), NoSuchBox)
        # The box that is inserted is not there before.
        self.assert_refused(SMALL, ("insert", 9, -1, scroller(9, -1)), NoSuchBox)
        for number in NO_NUMBERS:
            for height in (-1, 1001):
                self.assert_refused(SMALL, ("resize", number, height), NoSuchBox)

    def test_not_a_scroller_comes_second(self):
        for box in (block(9), block(2), block(0), block(9, 1001), nested(5)):
            for index in (-1, 0, 1, 99):
                self.assert_refused(SMALL, ("insert", 4, index, box), NotAScroller)
        self.assert_refused(with_boxes(40), ("insert", 40, 0, block(900)), NotAScroller)

    def test_refused_edit_comes_last(self):
        for box in (block(2), block(0), block(9, 1001), nested(5)):
            for index in (-1, 0, 99):
                self.assert_refused(SMALL, ("insert", 1, index, box), RefusedEdit)

    def test_a_document_that_is_none_is_refused(self):
        # Such a document is not handed in; what comes out of it is none too.
        for document in (with_boxes(42), nested(6)):
            self.assert_refused(document, ("resize", 2, 5), RefusedEdit)
        self.assert_edited(nested(5), ("remove", 5), "s1:10[s2:10[s3:10[s4:10[]]]]")


class Anchor(unittest.TestCase):
    BOX = scroller(1, 20, block(2, 10), scroller(3, 30, block(4, 90)), block(5, 10))

    def test_first_part_that_reaches_beyond_the_offset(self):
        for offset, number in ((1, 2), (9, 2), (10, 3), (11, 3), (30, 3), (39, 3), (40, 5), (49, 5)):
            self.assertEqual(anchor(self.BOX, offset), number, offset)

    def test_offset_of_zero(self):
        self.assertIsNone(anchor(self.BOX, 0))
        self.assertIsNone(anchor(scroller(1, 0, block(2, 1000)), 0))

    def test_below_zero(self):
        # This is no offset; it is not above 0 either.
        self.assertIsNone(anchor(self.BOX, -1))

    def test_parts_of_height_zero_ahead_of_the_first_row(self):
        box = scroller(1, 5, block(2, 0), block(3, 10), block(4, 0), scroller(5, 0), block(6, 10), block(7, 0))
        for offset, number in ((0, None), (1, 3), (9, 3), (10, 6), (11, 6), (15, 6)):
            self.assertEqual(anchor(box, offset), number, offset)

    def test_offset_at_the_end(self):
        self.assertEqual(anchor(self.BOX, range_of(self.BOX)), 3)
        # Of a scroller of height 0 no part reaches beyond the end.
        for parts in ((block(2, 10),), (block(2, 10), block(3, 0)), (block(2, 4), block(3, 6))):
            self.assertEqual(range_of(scroller(1, 0, *parts)), 10)
            self.assertIsNone(anchor(scroller(1, 0, *parts), 10))
            self.assertIsNotNone(anchor(scroller(1, 0, *parts), 9))

    def test_beyond_the_end(self):
        self.assertIsNone(anchor(self.BOX, 50))
        self.assertIsNone(anchor(self.BOX, 1000))

    def test_without_parts(self):
        for offset in (0, 1, 1000):
            self.assertIsNone(anchor(scroller(1, 20), offset))

    def test_against_the_rows_of_the_parts(self):
        parts = (block(2, 3), block(3, 0), scroller(4, 5), block(5, 1), block(6, 0), block(7, 2))
        rows = [part[1] for part in parts for _ in range(part[2])]
        for height in (0, 4, 10):
            for offset in range(1, len(rows)):
                self.assertEqual(anchor(scroller(1, height, *parts), offset), rows[offset], offset)


class OffsetsAfter(unittest.TestCase):
    # Block k has the rows from 20 * (k - 2) on; the range is 70.
    LIST = scroller(1, 30, *[block(number, 20) for number in (2, 3, 4, 5, 6)])
    # The ranges of 1 and 3 are 60 and 70.
    TREE = scroller(1, 50, block(2, 20), scroller(3, 40, block(4, 30), block(5, 30), block(6, 50)), block(7, 50))

    def assert_after(self, document, offsets, edit, expected):
        found = offsets_after(document, offsets, edited(document, edit))
        self.assertIsInstance(found, dict)
        self.assertEqual(found, expected, edit)

    def test_edits_ahead_of_the_anchor(self):
        # The anchor is block 4, from row 40 on.
        self.assert_after(self.LIST, {1: 45}, ("insert", 1, 0, block(9, 7)), {1: 52})
        self.assert_after(self.LIST, {1: 45}, ("insert", 1, 2, block(9, 7)), {1: 52})
        self.assert_after(self.LIST, {1: 45}, ("insert", 1, 1, scroller(9, 7, block(8, 99))), {1: 52, 9: 0})
        self.assert_after(self.LIST, {1: 45}, ("remove", 2), {1: 25})
        self.assert_after(self.LIST, {1: 45}, ("remove", 3), {1: 25})
        self.assert_after(self.LIST, {1: 45}, ("resize", 2, 25), {1: 50})
        self.assert_after(self.LIST, {1: 45}, ("resize", 3, 5), {1: 30})

    def test_edits_behind_the_anchor(self):
        self.assert_after(self.LIST, {1: 45}, ("insert", 1, 3, block(9, 7)), {1: 45})
        self.assert_after(self.LIST, {1: 45}, ("insert", 1, 5, block(9, 7)), {1: 45})
        self.assert_after(self.LIST, {1: 45}, ("remove", 6), {1: 45})
        self.assert_after(self.LIST, {1: 45}, ("resize", 5, 18), {1: 45})

    def test_edits_of_the_anchor(self):
        self.assert_after(self.LIST, {1: 45}, ("resize", 4, 40), {1: 45})
        self.assert_after(self.LIST, {1: 45}, ("resize", 4, 18), {1: 45})
        self.assert_after(self.LIST, {1: 45}, ("resize", 4, 0), {1: 45})

    def test_edits_within_the_anchor(self):
        # The anchor of the root is scroller 3.
        self.assert_after(self.TREE, {1: 30, 3: 0}, ("insert", 3, 0, block(9, 7)), {1: 30, 3: 0})
        self.assert_after(self.TREE, {1: 30, 3: 0}, ("remove", 5), {1: 30, 3: 0})
        self.assert_after(self.TREE, {1: 30, 3: 40}, ("insert", 3, 0, block(9, 7)), {1: 30, 3: 47})
        self.assert_after(self.TREE, {1: 30, 3: 40}, ("resize", 4, 10), {1: 30, 3: 20})
        self.assert_after(self.TREE, {1: 30, 3: 40}, ("resize", 6, 40), {1: 30, 3: 40})

    def test_edits_outside_of_a_scroller_leave_its_offset(self):
        self.assert_after(self.TREE, {1: 30, 3: 40}, ("insert", 1, 0, block(9, 7)), {1: 37, 3: 40})
        self.assert_after(self.TREE, {1: 30, 3: 40}, ("remove", 2), {1: 10, 3: 40})
        self.assert_after(self.TREE, {1: 30, 3: 40}, ("resize", 2, 0), {1: 10, 3: 40})

    def test_after_the_anchor_is_removed(self):
        self.assert_after(self.LIST, {1: 45}, ("remove", 4), {1: 45})
        self.assert_after(self.LIST, {1: 55}, ("remove", 4), {1: 50})
        self.assert_after(self.TREE, {1: 15, 3: 40}, ("remove", 5), {1: 15, 3: 40})
        self.assert_after(self.TREE, {1: 15, 3: 70}, ("remove", 6), {1: 15, 3: 20})

    def test_a_scroller_that_is_removed_has_no_offset(self):
        self.assert_after(self.TREE, {1: 60, 3: 40}, ("remove", 3), {1: 20})
        self.assert_after(self.TREE, {1: 10, 3: 40}, ("remove", 3), {1: 10})
        self.assert_after(SAMPLE, {1: 0, 3: 7, 5: 8, 10: 0}, ("remove", 3), {1: 0, 10: 0})

    def test_where_the_range_becomes_smaller(self):
        self.assert_after(self.LIST, {1: 70}, ("remove", 6), {1: 50})
        self.assert_after(self.LIST, {1: 70}, ("resize", 6, 5), {1: 55})
        self.assert_after(self.LIST, {1: 70}, ("resize", 1, 60), {1: 40})
        self.assert_after(self.LIST, {1: 70}, ("resize", 1, 100), {1: 0})
        self.assert_after(self.LIST, {1: 70}, ("resize", 1, 1000), {1: 0})
        self.assert_after(self.TREE, {1: 60, 3: 70}, ("resize", 3, 60), {1: 80, 3: 50})

    def test_where_the_range_becomes_greater(self):
        self.assert_after(self.LIST, {1: 70}, ("resize", 1, 0), {1: 70})
        self.assert_after(self.LIST, {1: 70}, ("insert", 1, 5, block(9, 1000)), {1: 70})
        self.assert_after(self.LIST, {1: 70}, ("insert", 1, 0, block(9, 1000)), {1: 1070})

    def test_a_scroller_with_the_offset_zero_has_no_anchor(self):
        self.assert_after(self.LIST, {1: 0}, ("insert", 1, 0, block(9, 7)), {1: 0})
        self.assert_after(self.LIST, {1: 0}, ("remove", 2), {1: 0})
        self.assert_after(self.LIST, {1: 1}, ("insert", 1, 0, block(9, 7)), {1: 8})

    def test_at_the_first_row_of_the_anchor(self):
        self.assert_after(self.LIST, {1: 40}, ("insert", 1, 2, block(9, 7)), {1: 47})
        self.assert_after(self.LIST, {1: 40}, ("insert", 1, 3, block(9, 7)), {1: 40})
        self.assert_after(self.LIST, {1: 40}, ("resize", 3, 50), {1: 70})
        self.assert_after(self.LIST, {1: 39}, ("resize", 3, 50), {1: 39})

    def test_parts_of_height_zero_are_no_anchors(self):
        document = scroller(1, 10, block(2, 20), block(3, 0), block(4, 20))
        self.assert_after(document, {1: 20}, ("resize", 3, 5), {1: 25})
        self.assert_after(document, {1: 20}, ("insert", 1, 2, block(9, 7)), {1: 27})
        self.assert_after(document, {1: 20}, ("remove", 3), {1: 20})

    def test_without_an_anchor_at_the_end(self):
        document = scroller(1, 0, block(2, 20), block(3, 20))
        self.assert_after(document, {1: 40}, ("insert", 1, 0, block(9, 7)), {1: 40})
        self.assert_after(document, {1: 40}, ("insert", 1, 2, block(9, 7)), {1: 40})
        self.assert_after(document, {1: 40}, ("remove", 2), {1: 20})
        self.assert_after(document, {1: 39}, ("insert", 1, 0, block(9, 7)), {1: 46})

    def test_new_scrollers_have_the_offset_zero(self):
        new = scroller(9, 5, block(8, 50), scroller(10, 5, block(11, 50)))
        self.assert_after(self.TREE, {1: 30, 3: 40}, ("insert", 1, 3, new), {1: 30, 3: 40, 9: 0, 10: 0})
        self.assert_after(self.TREE, {1: 30, 3: 40}, ("insert", 3, 0, new), {1: 30, 3: 45, 9: 0, 10: 0})

    def test_only_what_is_a_scroller_before_and_after_keeps_its_offset(self):
        # One edit cannot make a scroller of a block, or the other way round.
        document = scroller(1, 50, block(2, 20), scroller(3, 40, block(4, 90)))
        later = scroller(1, 50, scroller(2, 20, block(5, 90)), block(3, 40))
        self.assertEqual(offsets_after(document, {1: 5, 3: 40}, later), {1: 5, 2: 0})
        self.assertEqual(offsets_after(later, {1: 5, 2: 40}, document), {1: 5, 3: 0})

    def test_the_order_of_the_numbers_does_not_matter(self):
        document = scroller(9, 20, block(8, 20), scroller(5, 10, block(7, 15), block(1, 15)), block(3, 40))
        self.assert_after(document, {9: 25, 5: 16}, ("resize", 8, 30), {9: 35, 5: 16})
        self.assert_after(document, {9: 25, 5: 16}, ("resize", 7, 10), {9: 25, 5: 11})

    def test_the_example_of_the_document(self):
        document = scroller(1, 100, block(2, 80), block(3, 80), block(4, 80))
        self.assert_after(document, {1: 50}, ("insert", 1, 0, block(5, 40)), {1: 90})

    def test_what_is_at_the_top_stays_there(self):
        # The row of the anchor that the top of each scroller cuts is the same
        # afterwards, wherever no range is in the way.
        edits = [("insert", 1, 1, block(9, 7)), ("resize", 2, 3), ("insert", 3, 1, block(9, 7)), ("resize", 4, 50)]
        for edit, one, three in itertools.product(edits, range(1, 50), range(1, 50)):
            offsets = {1: one, 3: three}
            later = edited(self.TREE, edit)
            found = offsets_after(self.TREE, offsets, later)
            for number, offset in offsets.items():
                before, after = find(self.TREE, number), find(later, number)
                held = anchor(before, offset)
                wanted = offset + place_of(after, held) - place_of(before, held)
                self.assertEqual(found[number], min(wanted, range_of(after)), (edit, offsets))


def place_of(box, number):
    return dict(zip([part[1] for part in box[3]], places(box)))[number]


if __name__ == "__main__":
    unittest.main()
