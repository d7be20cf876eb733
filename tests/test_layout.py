import itertools
import unittest

from samples import SAMPLE, block, nested, scroller

from asyncframes.boxes import all_boxes, find
from asyncframes.layout import fitted, length_of, places, range_of, windows


def rows_seen(document, offsets):
    """For each box the rows of the root at which it lies, row by row.

    The boxes are laid out by walking down from the root, which is another
    way than that of the program.
    """
    found = {}

    def walk(box, top, visible):
        rows = [row for row in range(top, top + box[2]) if row in visible]
        found[box[1]] = rows
        if box[0] == "scroller":
            at = top - offsets[box[1]]
            for part in box[3]:
                walk(part, at, set(rows))
                at += part[2]

    walk(document, 0, set(range(document[2])))
    return found


class Places(unittest.TestCase):
    def test_ordinary(self):
        self.assertEqual(places(SAMPLE), [0, 30, 110, 130])
        self.assertEqual(places(find(SAMPLE, 3)), [0, 50, 90])

    def test_a_part_of_height_zero(self):
        self.assertEqual(places(find(SAMPLE, 5)), [0, 25, 25])
        self.assertEqual(places(scroller(1, 5, block(2, 0), block(3, 0), block(4, 9), block(5, 0))), [0, 0, 0, 9])

    def test_without_parts(self):
        found = places(scroller(1, 5))
        self.assertIsInstance(found, list)
        self.assertEqual(found, [])

    def test_one_part(self):
        self.assertEqual(places(scroller(1, 5, block(2, 1000))), [0])

    def test_only_the_heights_of_the_parts_count(self):
        # What a part contains, and the scroller's own height, do not matter.
        inner = scroller(2, 7, block(3, 500), block(4, 500))
        self.assertEqual(places(scroller(1, 900, inner, block(5, 3), block(6, 2))), [0, 7, 10])


class Lengths(unittest.TestCase):
    def test_ordinary(self):
        self.assertEqual((length_of(SAMPLE), range_of(SAMPLE)), (145, 45))
        self.assertEqual((length_of(find(SAMPLE, 3)), range_of(find(SAMPLE, 3))), (110, 30))
        self.assertEqual((length_of(find(SAMPLE, 5)), range_of(find(SAMPLE, 5))), (60, 20))

    def test_without_parts(self):
        for height in (0, 1, 20, 1000):
            self.assertEqual(length_of(scroller(1, height)), 0)
            self.assertEqual(range_of(scroller(1, height)), 0)

    def test_parts_shorter_than_the_scroller(self):
        box = scroller(1, 100, block(2, 40), block(3, 59))
        self.assertEqual((length_of(box), range_of(box)), (99, 0))

    def test_parts_as_long_as_the_scroller_and_longer(self):
        box = scroller(1, 99, block(2, 40), block(3, 59))
        self.assertEqual((length_of(box), range_of(box)), (99, 0))
        box = scroller(1, 98, block(2, 40), block(3, 59))
        self.assertEqual((length_of(box), range_of(box)), (99, 1))

    def test_a_scroller_of_height_zero(self):
        box = scroller(1, 0, block(2, 40), scroller(3, 1000, block(4, 7)))
        self.assertEqual((length_of(box), range_of(box)), (1040, 1040))


class Fitted(unittest.TestCase):
    # The ranges of the scrollers 1, 3, 5 and 10 of the sample are 45, 30, 20, 0.

    def test_within_the_ranges(self):
        for offsets in ({1: 45, 3: 30, 5: 20, 10: 0}, {1: 0, 3: 0, 5: 0, 10: 0}, {1: 44, 3: 1, 5: 10, 10: 0}):
            self.assertEqual(fitted(SAMPLE, offsets), offsets)

    def test_below_zero(self):
        self.assertEqual(fitted(SAMPLE, {1: -1, 3: -1000, 5: 3, 10: -7}), {1: 0, 3: 0, 5: 3, 10: 0})

    def test_beyond_the_range(self):
        self.assertEqual(fitted(SAMPLE, {1: 46, 3: 31, 5: 10 ** 9, 10: 1}), {1: 45, 3: 30, 5: 20, 10: 0})

    def test_missing_numbers_become_zero(self):
        self.assertEqual(fitted(SAMPLE, {}), {1: 0, 3: 0, 5: 0, 10: 0})
        self.assertEqual(fitted(SAMPLE, {3: 12}), {1: 0, 3: 12, 5: 0, 10: 0})

    def test_numbers_of_blocks_are_left_out(self):
        self.assertEqual(fitted(SAMPLE, {1: 5, 2: 6, 4: 7, 11: 0}), {1: 5, 3: 0, 5: 0, 10: 0})

    def test_numbers_of_no_box_are_left_out(self):
        self.assertEqual(fitted(SAMPLE, {-1: 3, 0: 4, 12: 5, 999: 6, 5: 2}), {1: 0, 3: 0, 5: 2, 10: 0})

    def test_parts_shorter_than_the_scroller(self):
        document = scroller(1, 100, block(2, 40), scroller(3, 50, block(4, 49)))
        self.assertEqual(fitted(document, {1: 1, 3: 1}), {1: 0, 3: 0})
        self.assertEqual(fitted(document, {1: -1, 3: -1}), {1: 0, 3: 0})

    def test_root_alone(self):
        self.assertEqual(fitted(scroller(8, 100), {8: 3, 1: 3}), {8: 0})


class Windows(unittest.TestCase):
    def test_with_all_offsets_zero(self):
        self.assertEqual(windows(SAMPLE, {1: 0, 3: 0, 5: 0, 10: 0}), {
            1: (0, 0, 100),
            2: (0, 0, 30),
            3: (30, 30, 100),
            4: (30, 30, 80),
            5: (80, 80, 100),
            6: (80, 80, 100),
            7: (105, 105, 100),
            8: (105, 105, 100),
            9: (120, 120, 100),
            10: (110, 110, 100),
            11: (130, 130, 100),
        })

    def test_scrolled(self):
        # Block 2 lies above the root, whose top cuts 3 and 4. Scroller 5 is
        # whole; it cuts 6 above and 8 below. Scroller 3 cuts 9 below.
        self.assertEqual(windows(SAMPLE, {1: 45, 3: 21, 5: 10, 10: 0}), {
            1: (0, 0, 100),
            2: (-45, 0, -15),
            3: (-15, 0, 65),
            4: (-36, 0, 14),
            5: (14, 14, 54),
            6: (4, 14, 29),
            7: (29, 29, 29),
            8: (29, 29, 54),
            9: (54, 54, 65),
            10: (65, 65, 85),
            11: (85, 85, 100),
        })

    def test_the_example_of_the_document(self):
        document = scroller(1, 100, block(2, 80), block(3, 80), block(4, 80))
        self.assertEqual(windows(document, {1: 50}), {
            1: (0, 0, 100), 2: (-50, 0, 30), 3: (30, 30, 100), 4: (110, 110, 100),
        })

    def test_unseen_within_a_scroller_that_is_seen_in_part(self):
        # Of scroller 3 the rows 60 to 100 of the root are seen; block 4 is
        # above them, 5 is seen in part, 6 would be within scroller 3 but is
        # below the root, and 7 is below scroller 3 as well.
        inner = scroller(3, 80, block(4, 50), block(5, 60), block(6, 30), block(7, 30))
        document = scroller(1, 100, block(2, 60), inner)
        self.assertEqual(windows(document, {1: 0, 3: 50}), {
            1: (0, 0, 100),
            2: (0, 0, 60),
            3: (60, 60, 100),
            4: (10, 60, 60),
            5: (60, 60, 100),
            6: (120, 120, 100),
            7: (150, 150, 100),
        })

    def test_within_a_scroller_that_is_not_seen(self):
        inner = scroller(3, 40, block(4, 40), block(5, 40))
        document = scroller(1, 100, block(2, 120), inner)
        self.assertEqual(windows(document, {1: 0, 3: 0}), {
            1: (0, 0, 100),
            2: (0, 0, 100),
            3: (120, 120, 100),
            4: (120, 120, 100),
            5: (160, 160, 100),
        })
        # Scrolled to its end, scroller 3 is seen whole, and block 5 in it.
        self.assertEqual(windows(document, {1: 60, 3: 40}), {
            1: (0, 0, 100),
            2: (-60, 0, 60),
            3: (60, 60, 100),
            4: (20, 60, 60),
            5: (60, 60, 100),
        })

    def test_above_the_root(self):
        document = scroller(1, 50, scroller(2, 30, block(3, 10), block(4, 60)), block(5, 90))
        self.assertEqual(windows(document, {1: 40, 2: 5}), {
            1: (0, 0, 50),
            2: (-40, 0, -10),
            3: (-45, 0, -35),
            4: (-35, 0, -10),
            5: (-10, 0, 50),
        })

    def test_a_part_taller_than_its_scroller(self):
        document = scroller(1, 10, block(2, 1000))
        self.assertEqual(windows(document, {1: 500}), {1: (0, 0, 10), 2: (-500, 0, 10)})

    def test_heights_of_zero(self):
        document = scroller(1, 0, block(2, 0), scroller(3, 0, block(4, 5)))
        self.assertEqual(windows(document, {1: 0, 3: 2}), {
            1: (0, 0, 0), 2: (0, 0, 0), 3: (0, 0, 0), 4: (-2, 0, 0),
        })

    def test_without_parts(self):
        self.assertEqual(windows(scroller(9, 70), {9: 0}), {9: (0, 0, 70)})

    def test_four_scrollers_within_one_another(self):
        document = nested(4, [block(5, 30)])
        self.assertEqual(windows(document, {1: 0, 2: 0, 3: 0, 4: 15}), {
            1: (0, 0, 10), 2: (0, 0, 10), 3: (0, 0, 10), 4: (0, 0, 10), 5: (-15, 0, 10),
        })

    def test_each_box_has_one(self):
        found = windows(SAMPLE, {1: 7, 3: 8, 5: 9, 10: 0})
        self.assertIsInstance(found, dict)
        self.assertEqual(sorted(found), [box[1] for box in all_boxes(SAMPLE)])
        for window in found.values():
            self.assertIsInstance(window, tuple)

    def test_against_rows(self):
        for one, three, five in itertools.product((0, 1, 29, 30, 45), (0, 5, 30), (0, 10, 20)):
            offsets = {1: one, 3: three, 5: five, 10: 0}
            seen = rows_seen(SAMPLE, offsets)
            for number, (_, first, behind) in windows(SAMPLE, offsets).items():
                self.assertEqual(list(range(first, behind)), seen[number], (offsets, number))


if __name__ == "__main__":
    unittest.main()
