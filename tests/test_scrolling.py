import itertools
import unittest

from samples import SAMPLE, block, nested, scroller

from asyncframes.layout import fitted
from asyncframes.scrolling import moved, scrolled

# The ranges of the scrollers 1, 3, 5 and 10 of the sample are 45, 30, 20, 0.
START = {1: 0, 3: 0, 5: 0, 10: 0}
MIDDLE = {1: 20, 3: 15, 5: 10, 10: 0}
END = {1: 45, 3: 30, 5: 20, 10: 0}
RANGES = END


def row_by_row(offsets, path, amount):
    """The same scroll of the sample, done one row at a time."""
    later, steps = dict(offsets), {}
    direction = 1 if amount > 0 else -1
    for _ in range(abs(amount)):
        able = [number for number in path if 0 <= later[number] + direction <= RANGES[number]]
        if able:
            later[able[0]] += direction
            steps[able[0]] = steps.get(able[0], 0) + direction
    return later, tuple((number, steps[number]) for number in path if number in steps)


class Scrolled(unittest.TestCase):
    def assert_scrolled(self, offsets, path, amount, changed, moves, document=SAMPLE):
        found = scrolled(document, offsets, path, amount)
        self.assertIsInstance(found, tuple)
        self.assertEqual(found, ({**offsets, **changed}, moves), (path, amount))
        self.assertIsInstance(found[1], tuple)
        for move in found[1]:
            self.assertIsInstance(move, tuple)

    def test_one_scroller(self):
        self.assert_scrolled(START, (1,), 5, {1: 5}, ((1, 5),))
        self.assert_scrolled(MIDDLE, (1,), 5, {1: 25}, ((1, 5),))
        self.assert_scrolled(MIDDLE, (1,), -5, {1: 15}, ((1, -5),))
        self.assert_scrolled(MIDDLE, (5,), -1, {5: 9}, ((5, -1),))

    def test_up_to_the_end_and_beyond(self):
        self.assert_scrolled(START, (1,), 44, {1: 44}, ((1, 44),))
        self.assert_scrolled(START, (1,), 45, {1: 45}, ((1, 45),))
        self.assert_scrolled(START, (1,), 46, {1: 45}, ((1, 45),))
        self.assert_scrolled(MIDDLE, (1,), 10 ** 9, {1: 45}, ((1, 25),))
        self.assert_scrolled(MIDDLE, (1,), -19, {1: 1}, ((1, -19),))
        self.assert_scrolled(MIDDLE, (1,), -20, {1: 0}, ((1, -20),))
        self.assert_scrolled(MIDDLE, (1,), -21, {1: 0}, ((1, -20),))
        self.assert_scrolled(MIDDLE, (1,), -10 ** 9, {1: 0}, ((1, -20),))

    def test_a_scroller_at_its_end_makes_no_move(self):
        self.assert_scrolled(END, (1,), 1, {}, ())
        self.assert_scrolled(START, (1,), -1, {}, ())
        self.assert_scrolled(START, (10,), 7, {}, ())
        self.assert_scrolled(START, (10,), -7, {}, ())

    def test_amount_of_zero(self):
        for offsets in (START, MIDDLE, END):
            for path in ((), (1,), (5, 3, 1)):
                self.assert_scrolled(offsets, path, 0, {}, ())

    def test_path_of_none(self):
        for amount in (-1000, -1, 0, 1, 1000):
            self.assert_scrolled(MIDDLE, (), amount, {}, ())

    def test_what_is_left_goes_to_the_next(self):
        self.assert_scrolled(START, (5, 3, 1), 20, {5: 20}, ((5, 20),))
        self.assert_scrolled(START, (5, 3, 1), 21, {5: 20, 3: 1}, ((5, 20), (3, 1)))
        self.assert_scrolled(START, (5, 3, 1), 60, {5: 20, 3: 30, 1: 10}, ((5, 20), (3, 30), (1, 10)))
        self.assert_scrolled(MIDDLE, (5, 3, 1), 30, {5: 20, 3: 30, 1: 25}, ((5, 10), (3, 15), (1, 5)))
        self.assert_scrolled(MIDDLE, (5, 3, 1), -30, {5: 0, 3: 0, 1: 15}, ((5, -10), (3, -15), (1, -5)))

    def test_what_is_left_at_the_end_is_lost(self):
        self.assert_scrolled(MIDDLE, (5, 3, 1), 1000, {5: 20, 3: 30, 1: 45}, ((5, 10), (3, 15), (1, 25)))
        self.assert_scrolled(MIDDLE, (5, 3, 1), -1000, {5: 0, 3: 0, 1: 0}, ((5, -10), (3, -15), (1, -20)))
        self.assert_scrolled(END, (5, 3, 1), 1000, {}, ())
        self.assert_scrolled(START, (5, 3, 1), -1000, {}, ())

    def test_first_scroller_at_its_end_already(self):
        self.assert_scrolled({**MIDDLE, 5: 20}, (5, 3, 1), 7, {3: 22}, ((3, 7),))
        self.assert_scrolled({**MIDDLE, 5: 20}, (5, 3, 1), 17, {3: 30, 1: 22}, ((3, 15), (1, 2)))
        self.assert_scrolled({**MIDDLE, 5: 0}, (5, 3, 1), -7, {3: 8}, ((3, -7),))
        self.assert_scrolled(MIDDLE, (10, 1), 7, {1: 27}, ((1, 7),))

    def test_a_scroller_at_its_end_in_the_middle_of_the_path(self):
        self.assert_scrolled({**MIDDLE, 3: 30}, (5, 3, 1), 15, {5: 20, 1: 25}, ((5, 10), (1, 5)))
        self.assert_scrolled({**MIDDLE, 3: 0}, (5, 3, 1), -15, {5: 0, 1: 15}, ((5, -10), (1, -5)))

    def test_moves_stand_in_the_order_of_the_path(self):
        self.assert_scrolled(START, (1, 3, 5), 80, {1: 45, 3: 30, 5: 5}, ((1, 45), (3, 30), (5, 5)))
        self.assert_scrolled(START, (3, 5, 1), 40, {3: 30, 5: 10}, ((3, 30), (5, 10)))

    def test_path_as_a_list(self):
        self.assertEqual(scrolled(SAMPLE, START, [5, 3, 1], 25), ({1: 0, 3: 5, 5: 20, 10: 0}, ((5, 20), (3, 5))))

    def test_four_scrollers_within_one_another(self):
        document = nested(4, [block(5, 30)])
        offsets = {1: 0, 2: 0, 3: 0, 4: 15}
        self.assert_scrolled(offsets, (4, 3, 2, 1), 9, {4: 20}, ((4, 5),), document)

    def test_the_example_of_the_document(self):
        document = scroller(1, 100, block(2, 80), block(3, 80), block(4, 80))
        self.assert_scrolled({1: 0}, (1,), 50, {1: 50}, ((1, 50),), document)

    def test_offsets_out_of_range_do_not_move_backward(self):
        # They are no offsets by point 5; the amount tells the direction still.
        document = scroller(1, 10, scroller(2, 10, block(3, 30)), block(4, 30))
        self.assertEqual(scrolled(document, {1: 5, 2: 25}, (2, 1), 3), ({1: 8, 2: 25}, ((1, 3),)))
        self.assertEqual(scrolled(document, {1: 5, 2: -4}, (2, 1), -3), ({1: 2, 2: -4}, ((1, -3),)))
        self.assertEqual(scrolled(document, {1: 5, 2: -4}, (2, 1), 0), ({1: 5, 2: -4}, ()))

    def test_against_row_by_row(self):
        paths = ((1,), (3, 1), (5, 3, 1), (10, 1), (5,), (10,))
        amounts = (-100, -46, -30, -11, -1, 0, 1, 9, 20, 31, 50, 100)
        for one, three, five in itertools.product((0, 20, 45), (0, 15, 30), (0, 10, 20)):
            offsets = {1: one, 3: three, 5: five, 10: 0}
            for path, amount in itertools.product(paths, amounts):
                found = scrolled(SAMPLE, offsets, path, amount)
                self.assertEqual(found, row_by_row(offsets, path, amount), (offsets, path, amount))
                self.assertEqual(moved(SAMPLE, offsets, found[1]), found[0])


class Moved(unittest.TestCase):
    def assert_moved(self, offsets, moves, changed):
        for kind in (tuple, list):
            found = moved(SAMPLE, offsets, kind(moves))
            self.assertIsInstance(found, dict)
            self.assertEqual(found, {**offsets, **changed}, moves)

    def test_no_moves(self):
        for offsets in (START, MIDDLE, END):
            self.assert_moved(offsets, [], {})

    def test_one_move(self):
        self.assert_moved(MIDDLE, [(1, 5)], {1: 25})
        self.assert_moved(MIDDLE, [(3, -5)], {3: 10})

    def test_moves_of_several_scrollers(self):
        self.assert_moved(MIDDLE, [(5, 10), (3, -15), (1, 1)], {5: 20, 3: 0, 1: 21})

    def test_beyond_the_range(self):
        self.assert_moved(MIDDLE, [(1, 25)], {1: 45})
        self.assert_moved(MIDDLE, [(1, 26)], {1: 45})
        self.assert_moved(MIDDLE, [(1, 10 ** 9)], {1: 45})
        self.assert_moved(MIDDLE, [(1, -20)], {1: 0})
        self.assert_moved(MIDDLE, [(1, -21)], {1: 0})
        self.assert_moved(MIDDLE, [(1, -10 ** 9)], {1: 0})
        self.assert_moved(START, [(10, 1)], {})

    def test_what_is_left_does_not_go_elsewhere(self):
        self.assert_moved(START, [(5, 1000)], {5: 20})

    def test_same_scroller_several_times(self):
        self.assert_moved(START, [(1, 10), (1, 20), (1, -5)], {1: 25})
        self.assert_moved(START, [(1, 10), (3, 4), (1, -3), (3, 5)], {1: 7, 3: 9})

    def test_each_move_is_brought_into_the_range(self):
        # The sums of these moves alone would end elsewhere.
        self.assert_moved(START, [(1, 100), (1, -10)], {1: 35})
        self.assert_moved(MIDDLE, [(1, -100), (1, 10)], {1: 10})
        self.assert_moved(START, [(1, -10), (1, 100), (1, -1), (1, -100), (1, 3)], {1: 3})

    def test_order_matters(self):
        self.assert_moved(START, [(1, 50), (1, -10)], {1: 35})
        self.assert_moved(START, [(1, -10), (1, 50)], {1: 45})

    def test_moves_of_blocks(self):
        for number in (2, 4, 6, 7, 8, 9, 11):
            self.assert_moved(MIDDLE, [(number, 5)], {})
            self.assert_moved(MIDDLE, [(number, -5), (1, 5)], {1: 25})

    def test_moves_of_numbers_that_no_box_has(self):
        for number in (-1, 0, 12, 999, 1000):
            self.assert_moved(MIDDLE, [(number, 5)], {})
            self.assert_moved(MIDDLE, [(3, 1), (number, -5), (3, 1)], {3: 17})

    def test_no_moves_keep_fitting_offsets(self):
        for offsets in (START, MIDDLE, END):
            self.assertEqual(moved(SAMPLE, offsets, ()), fitted(SAMPLE, offsets))


if __name__ == "__main__":
    unittest.main()
