import random
import unittest

from samples import SAMPLE, block, scroller

from asyncframes.boxes import all_boxes, find, is_document
from asyncframes.edits import edited, offsets_after
from asyncframes.errors import FrameError, NoSuchBox, NotAScroller, RefusedEdit
from asyncframes.layout import fitted
from asyncframes.plain import do_deed, plain_run
from asyncframes.scrolling import moved

# The ranges of the scrollers 1, 3, 5 and 10 of the sample are 45, 30, 20, 0.
START = {1: 0, 3: 0, 5: 0, 10: 0}
MIDDLE = {1: 20, 3: 15, 5: 10, 10: 0}

EXAMPLE = scroller(1, 100, block(2, 80), block(3, 80), block(4, 80))
EXAMPLE_EDIT = ("edit", ("insert", 1, 0, block(5, 40)))

# Deeds that raise errors over the sample and over a document with block 2
# and without box 12.
WRONG = (
    (("set", 12, 5), NoSuchBox),
    (("set", -1, 0), NoSuchBox),
    (("set", 0, 0), NoSuchBox),
    (("set", 1000, 10 ** 9), NoSuchBox),
    (("set", 2, 5), NotAScroller),
    (("set", 2, -5), NotAScroller),
    (("edit", ("insert", 12, -1, block(2))), NoSuchBox),
    (("edit", ("insert", 2, -1, block(2))), NotAScroller),
    (("edit", ("insert", 1, -1, block(20))), RefusedEdit),
    (("edit", ("insert", 1, 0, block(2))), RefusedEdit),
    (("edit", ("remove", 12)), NoSuchBox),
    (("edit", ("remove", 1)), RefusedEdit),
    (("edit", ("resize", 12, -1)), NoSuchBox),
    (("edit", ("resize", 1, -1)), RefusedEdit),
    (("edit", ("resize", 2, 1001)), RefusedEdit),
)


class DoDeed(unittest.TestCase):
    def assert_done(self, offsets, deed, document, later):
        found = do_deed(SAMPLE, offsets, deed)
        self.assertIsInstance(found, tuple)
        self.assertEqual(found, (document, later), deed)

    def assert_set(self, number, offset, expected):
        self.assert_done(MIDDLE, ("set", number, offset), SAMPLE, {**MIDDLE, number: expected})

    def test_set(self):
        self.assert_set(1, 7, 7)
        self.assert_set(3, 0, 0)
        self.assert_set(5, 20, 20)
        self.assert_set(5, 10, 10)

    def test_set_is_no_move(self):
        self.assert_done(MIDDLE, ("set", 1, 1), SAMPLE, {**MIDDLE, 1: 1})

    def test_set_is_brought_into_the_range(self):
        for number, greatest in ((1, 45), (3, 30), (5, 20), (10, 0)):
            self.assert_set(number, -1, 0)
            self.assert_set(number, -10 ** 9, 0)
            self.assert_set(number, greatest, greatest)
            self.assert_set(number, greatest + 1, greatest)
            self.assert_set(number, 10 ** 9, greatest)

    def test_moves(self):
        self.assert_done(MIDDLE, ("moves", ()), SAMPLE, MIDDLE)
        self.assert_done(MIDDLE, ("moves", ((1, 5),)), SAMPLE, {**MIDDLE, 1: 25})
        self.assert_done(MIDDLE, ("moves", ((1, 100), (3, -4), (1, -5))), SAMPLE, {**MIDDLE, 1: 40, 3: 11})

    def test_moves_of_no_scroller_do_nothing(self):
        self.assert_done(MIDDLE, ("moves", ((2, 5), (12, -5), (0, 1), (5, 1))), SAMPLE, {**MIDDLE, 5: 11})

    def test_edit(self):
        # The anchor of the root is block 2, that of scroller 3 is block 4.
        self.assert_done(
            MIDDLE, ("edit", ("insert", 3, 0, block(20, 8))),
            edited(SAMPLE, ("insert", 3, 0, block(20, 8))), {**MIDDLE, 3: 23},
        )
        self.assert_done(MIDDLE, ("edit", ("resize", 5, 55)), edited(SAMPLE, ("resize", 5, 55)), {**MIDDLE, 5: 5})
        self.assert_done(MIDDLE, ("edit", ("remove", 5)), edited(SAMPLE, ("remove", 5)), {1: 20, 3: 0, 10: 0})

    def test_edit_that_changes_nothing(self):
        self.assert_done(MIDDLE, ("edit", ("resize", 5, 40)), SAMPLE, MIDDLE)

    def test_errors(self):
        for deed, error in WRONG:
            with self.assertRaises(FrameError) as caught:
                do_deed(SAMPLE, MIDDLE, deed)
            self.assertIs(type(caught.exception), error, deed)

    def test_each_block_and_each_number_of_no_box(self):
        for number in (2, 4, 6, 7, 8, 9, 11):
            self.assertRaises(NotAScroller, do_deed, SAMPLE, MIDDLE, ("set", number, 0))
        for number in (-3, 0, 12, 13, 998, 999, 1000):
            self.assertRaises(NoSuchBox, do_deed, SAMPLE, MIDDLE, ("set", number, 0))

    def test_an_error_changes_nothing(self):
        for deed, error in WRONG:
            offsets = dict(MIDDLE)
            before = do_deed(SAMPLE, offsets, ("set", 1, 7))
            self.assertRaises(error, do_deed, SAMPLE, offsets, deed)
            self.assertEqual(offsets, MIDDLE)
            self.assertEqual(do_deed(SAMPLE, offsets, ("set", 1, 7)), before)


class PlainRun(unittest.TestCase):
    def assert_run(self, document, deeds, later, offsets):
        found = plain_run(document, deeds)
        self.assertIsInstance(found, tuple)
        self.assertEqual(found, (later, offsets), deeds)

    def test_no_deed(self):
        self.assert_run(SAMPLE, [], SAMPLE, START)
        self.assert_run(scroller(7, 5), [], scroller(7, 5), {7: 0})

    def test_one_deed(self):
        self.assert_run(SAMPLE, [("set", 3, 7)], SAMPLE, {**START, 3: 7})
        self.assert_run(SAMPLE, [("moves", ((5, 7), (5, 7)))], SAMPLE, {**START, 5: 14})
        self.assert_run(SAMPLE, [("edit", ("remove", 11))], edited(SAMPLE, ("remove", 11)), START)

    def test_the_example_of_the_document(self):
        moves = ("moves", ((1, 50),))
        self.assert_run(EXAMPLE, [moves], EXAMPLE, {1: 50})
        self.assert_run(EXAMPLE, [moves, EXAMPLE_EDIT], edited(EXAMPLE, EXAMPLE_EDIT[1]), {1: 90})

    def test_deeds_are_done_in_their_order(self):
        moves = ("moves", ((1, 50),))
        self.assert_run(EXAMPLE, [EXAMPLE_EDIT, moves], edited(EXAMPLE, EXAMPLE_EDIT[1]), {1: 50})
        self.assert_run(SAMPLE, [("set", 1, 7), ("moves", ((1, 2),))], SAMPLE, {**START, 1: 9})
        self.assert_run(SAMPLE, [("moves", ((1, 2),)), ("set", 1, 7)], SAMPLE, {**START, 1: 7})

    def test_many_deeds(self):
        deeds = [
            ("moves", ((3, 30), (1, 10))),
            # Block 4 is removed, which scroller 3 begins with: its range is 0.
            ("edit", ("remove", 4)),
            ("edit", ("insert", 3, 0, block(4, 60))),
            # Its range is 40 now, and the anchor is block 4.
            ("set", 3, 1000),
            ("edit", ("insert", 3, 0, scroller(20, 5, block(21, 9)))),
            ("moves", ((20, 3), (4, 5), (3, -1), (77, 8))),
            ("edit", ("resize", 2, 5)),
            ("set", 20, 2),
        ]
        later = SAMPLE
        for deed in deeds:
            if deed[0] == "edit":
                later = edited(later, deed[1])
        self.assert_run(SAMPLE, deeds, later, {1: 10, 3: 44, 5: 0, 10: 0, 20: 2})

    def test_a_scroller_that_comes_again_begins_at_zero(self):
        box = find(SAMPLE, 5)
        deeds = [("set", 5, 20), ("edit", ("remove", 5)), ("edit", ("insert", 3, 1, box))]
        self.assert_run(SAMPLE, deeds, SAMPLE, START)

    def test_errors_are_those_of_the_deeds(self):
        for deed, error in WRONG:
            for deeds in ([deed], [("set", 1, 7), deed], [("set", 1, 7), deed, ("set", 12, 0)]):
                with self.assertRaises(FrameError) as caught:
                    plain_run(SAMPLE, deeds)
                self.assertIs(type(caught.exception), error, deed)

    def test_deeds_may_be_wrong_because_of_earlier_ones(self):
        with self.assertRaises(NoSuchBox):
            plain_run(SAMPLE, [("edit", ("remove", 3)), ("set", 5, 1)])
        with self.assertRaises(RefusedEdit):
            plain_run(SAMPLE, [EXAMPLE_EDIT[:1] + (("insert", 1, 0, block(20)),)] * 2)
        self.assert_run(SAMPLE, [("edit", ("remove", 3)), ("moves", ((5, 1),))], edited(SAMPLE, ("remove", 3)), {1: 0, 10: 0})

    def test_long_runs(self):
        for seed in range(40):
            self.run_long(random.Random(seed))

    def run_long(self, source):
        """Does deeds one by one, and checks the run of those so far each time."""
        document, offsets, deeds = SAMPLE, START, []
        for _ in range(25):
            deed = any_deed(source, document)
            try:
                expected = plainly_done(document, offsets, deed)
            except FrameError as error:
                self.assertRaises(type(error), do_deed, document, offsets, deed)
                self.assertRaises(type(error), plain_run, SAMPLE, deeds + [deed])
                continue
            self.assertEqual(do_deed(document, offsets, deed), expected, deed)
            document, offsets = expected
            deeds.append(deed)
            self.assertEqual(plain_run(SAMPLE, deeds), expected, deeds)
            self.assertTrue(is_document(document))
            self.assertEqual(fitted(document, offsets), offsets)


def any_deed(source, document):
    numbers = [box[1] for box in all_boxes(document)] + [99]
    number = source.choice(numbers)
    kind = source.randrange(5)
    if kind == 0:
        return ("set", number, source.randrange(-20, 80))
    if kind == 1:
        amounts = [amount for amount in range(-40, 60) if amount != 0]
        return ("moves", tuple((source.choice(numbers), source.choice(amounts)) for _ in range(source.randrange(4))))
    if kind == 2:
        new = source.randrange(1, 60)
        box = source.choice([block(new, source.randrange(50)), scroller(new, 9, block(new + 100, 30))])
        return ("edit", ("insert", number, source.randrange(-1, 4), box))
    if kind == 3:
        return ("edit", ("remove", number))
    return ("edit", ("resize", number, source.randrange(-2, 60)))


def plainly_done(document, offsets, deed):
    """The same deed, by the functions of the other modules."""
    if deed[0] == "edit":
        later = edited(document, deed[1])
        return later, offsets_after(document, offsets, later)
    if deed[0] == "moves":
        return document, moved(document, offsets, deed[1])
    box = find(document, deed[1])
    if box is None:
        raise NoSuchBox("")
    if box[0] == "block":
        raise NotAScroller("")
    return document, fitted(document, {**offsets, deed[1]: deed[2]})


if __name__ == "__main__":
    unittest.main()
