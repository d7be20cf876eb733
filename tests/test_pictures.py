import itertools
import unittest

from samples import SAMPLE, block, nested, scroller, with_boxes

from asyncframes.layout import fitted
from asyncframes.pictures import picture, under

START = {1: 0, 3: 0, 5: 0, 10: 0}
SCROLLED = {1: 45, 3: 21, 5: 10, 10: 0}


def sample_offsets():
    for one, three, five in itertools.product((0, 1, 29, 30, 45), (0, 5, 30), (0, 10, 20)):
        yield {1: one, 3: three, 5: five, 10: 0}


def rows_of_the_picture(document, offsets):
    """For each row of the root the block that the picture has there."""
    rows = [None] * document[2]
    for number, _, first, behind in picture(document, offsets):
        for row in range(first, behind):
            assert rows[row] is None
            rows[row] = number
    return rows


def walked_down(document, offsets, row):
    """The path and the target, found by counting rows from scroller to scroller."""
    box, path = document, ()
    while box is not None and box[0] == "scroller":
        path = (box[1],) + path
        at, inside, row = row + offsets[box[1]], None, None
        for part in box[3]:
            if inside is None and at < part[2]:
                inside, row = part, at
            at -= part[2]
        box = inside
    return path, None if box is None else box[1]


class Picture(unittest.TestCase):
    def assert_picture(self, document, offsets, expected):
        found = picture(document, offsets)
        self.assertIsInstance(found, list)
        self.assertEqual(found, expected)
        for each in found:
            self.assertIsInstance(each, tuple)

    def test_with_all_offsets_zero(self):
        self.assert_picture(SAMPLE, START, [(2, 0, 0, 30), (4, 30, 30, 80), (6, 80, 80, 100)])

    def test_scrolled(self):
        # Block 2 is above the root, block 7 has no rows. Scroller 3 cuts 9
        # below and the root cuts 4 above; scroller 5 cuts 6 above, 8 below.
        self.assert_picture(SAMPLE, SCROLLED, [
            (4, -36, 0, 14), (6, 4, 14, 29), (8, 29, 29, 54), (9, 54, 54, 65), (11, 85, 85, 100),
        ])

    def test_the_example_of_the_document(self):
        document = scroller(1, 100, block(2, 80), block(3, 80), block(4, 80))
        self.assert_picture(document, {1: 50}, [(2, -50, 0, 30), (3, 30, 30, 100)])

    def test_tree_order_is_not_the_order_of_the_numbers(self):
        document = scroller(50, 60, scroller(9, 20, block(40, 15), block(3, 15)), block(7), scroller(2, 20, block(1)))
        self.assert_picture(document, {50: 0, 9: 0, 2: 0}, [(40, 0, 0, 15), (3, 15, 15, 20), (7, 20, 20, 30), (1, 30, 30, 40)])

    def test_a_block_needs_one_row(self):
        document = scroller(1, 20, block(2, 10), block(3, 20), block(4, 10))
        self.assert_picture(document, {1: 0}, [(2, 0, 0, 10), (3, 10, 10, 20)])
        self.assert_picture(document, {1: 1}, [(2, -1, 0, 9), (3, 9, 9, 20)])
        self.assert_picture(document, {1: 9}, [(2, -9, 0, 1), (3, 1, 1, 20)])
        self.assert_picture(document, {1: 10}, [(3, 0, 0, 20)])
        self.assert_picture(document, {1: 11}, [(3, -1, 0, 19), (4, 19, 19, 20)])
        self.assert_picture(document, {1: 20}, [(3, -10, 0, 10), (4, 10, 10, 20)])

    def test_a_block_that_is_cut_on_both_sides(self):
        self.assert_picture(scroller(1, 10, block(2, 1000)), {1: 500}, [(2, -500, 0, 10)])

    def test_blocks_of_a_scroller_that_is_not_seen(self):
        document = scroller(1, 30, block(2, 40), scroller(3, 20, block(4, 50)))
        self.assert_picture(document, {1: 0, 3: 30}, [(2, 0, 0, 30)])
        self.assert_picture(document, {1: 10, 3: 30}, [(2, -10, 0, 30)])
        self.assert_picture(document, {1: 11, 3: 30}, [(2, -11, 0, 29), (4, -1, 29, 30)])

    def test_a_block_that_only_its_scroller_hides(self):
        # The rows of block 5 lie within the root, but not within scroller 2.
        document = scroller(1, 100, scroller(2, 20, block(3, 10), block(4, 10), block(5, 10)), block(6, 30))
        self.assert_picture(document, {1: 0, 2: 0}, [(3, 0, 0, 10), (4, 10, 10, 20), (6, 20, 20, 50)])
        self.assert_picture(document, {1: 0, 2: 10}, [(4, 0, 0, 10), (5, 10, 10, 20), (6, 20, 20, 50)])

    def test_nothing_is_seen(self):
        self.assert_picture(scroller(1, 0, block(2, 5)), {1: 0}, [])
        self.assert_picture(scroller(1, 0, block(2, 5)), {1: 3}, [])
        self.assert_picture(scroller(1, 50), {1: 0}, [])
        self.assert_picture(scroller(1, 50, block(2, 0), scroller(3, 20), scroller(4, 0, block(5))), {1: 0, 3: 0, 4: 0}, [])

    def test_at_the_limits(self):
        self.assert_picture(nested(4, [block(5, 30)]), {1: 0, 2: 0, 3: 0, 4: 15}, [(5, -15, 0, 10)])
        self.assertEqual(
            picture(with_boxes(40), {1: 290}),
            [(number, top, top, top + 10) for number, top in zip(range(31, 41), range(0, 100, 10))],
        )

    def test_against_what_lies_under_each_row(self):
        for offsets in sample_offsets():
            self.assertEqual(
                rows_of_the_picture(SAMPLE, offsets),
                [walked_down(SAMPLE, offsets, row)[1] for row in range(100)],
                offsets,
            )


class Under(unittest.TestCase):
    def assert_rows(self, document, offsets, expected):
        """Checks each row of the root; expected has (many rows, path, target)."""
        rows = [(path, target) for many, path, target in expected for _ in range(many)]
        self.assertEqual(len(rows), document[2])
        for row, wanted in enumerate(rows):
            self.assertEqual(under(document, offsets, row), wanted, row)

    def test_kinds_of_values(self):
        found = under(SAMPLE, START, 85)
        self.assertIsInstance(found, tuple)
        self.assertIsInstance(found[0], tuple)
        self.assertEqual(found, ((5, 3, 1), 6))

    def test_with_all_offsets_zero(self):
        self.assert_rows(SAMPLE, START, [(30, (1,), 2), (50, (3, 1), 4), (20, (5, 3, 1), 6)])

    def test_scrolled(self):
        self.assert_rows(SAMPLE, SCROLLED, [
            (14, (3, 1), 4),
            (15, (5, 3, 1), 6),
            (25, (5, 3, 1), 8),
            (11, (3, 1), 9),
            (20, (10, 1), None),
            (15, (1,), 11),
        ])

    def test_parts_that_do_not_fill_the_root(self):
        document = scroller(1, 40, block(2, 10), block(3, 5))
        self.assert_rows(document, {1: 0}, [(10, (1,), 2), (5, (1,), 3), (25, (1,), None)])

    def test_parts_that_do_not_fill_a_scroller_within(self):
        document = scroller(1, 40, scroller(2, 20, block(3, 5)), block(4, 30))
        self.assert_rows(document, {1: 0, 2: 0}, [(5, (2, 1), 3), (15, (2, 1), None), (20, (1,), 4)])
        self.assert_rows(document, {1: 10, 2: 0}, [(10, (2, 1), None), (30, (1,), 4)])

    def test_parts_of_height_zero(self):
        document = scroller(1, 20, block(2, 0), scroller(3, 0, block(4, 9)), block(5, 8), block(6, 0), block(7, 2), block(8, 0))
        self.assert_rows(document, {1: 0, 3: 4}, [(8, (1,), 5), (2, (1,), 7), (10, (1,), None)])

    def test_a_scroller_that_is_seen_in_part(self):
        # Rows 60 to 100 of the root show scroller 3, which is 80 high and cut
        # below; block 4 would reach into rows of the root above scroller 3.
        inner = scroller(3, 80, block(4, 50), scroller(5, 60, block(6, 10), block(7, 90)), block(8, 30))
        document = scroller(1, 100, block(2, 60), inner)
        self.assert_rows(document, {1: 0, 3: 50, 5: 0}, [(60, (1,), 2), (10, (5, 3, 1), 6), (30, (5, 3, 1), 7)])
        self.assert_rows(document, {1: 0, 3: 45, 5: 0}, [(60, (1,), 2), (5, (3, 1), 4), (10, (5, 3, 1), 6), (25, (5, 3, 1), 7)])
        self.assert_rows(document, {1: 40, 3: 60, 5: 40}, [(20, (1,), 2), (50, (5, 3, 1), 7), (30, (3, 1), 8)])

    def test_parts_that_stick_out_of_their_scroller(self):
        # Without its window, block 5 would lie under the rows of block 6 too.
        document = scroller(1, 60, scroller(2, 20, block(3, 10), block(5, 40)), block(6, 40))
        self.assert_rows(document, {1: 0, 2: 0}, [(10, (2, 1), 3), (10, (2, 1), 5), (40, (1,), 6)])
        self.assert_rows(document, {1: 0, 2: 30}, [(20, (2, 1), 5), (40, (1,), 6)])

    def test_path_has_the_innermost_scroller_first(self):
        self.assert_rows(nested(4, [block(5, 30)]), {1: 0, 2: 0, 3: 0, 4: 15}, [(10, (4, 3, 2, 1), 5)])
        document = scroller(2, 10, scroller(9, 10, scroller(4, 10)))
        self.assert_rows(document, {2: 0, 9: 0, 4: 0}, [(10, (4, 9, 2), None)])

    def test_root_alone(self):
        self.assert_rows(scroller(7, 30), {7: 0}, [(30, (7,), None)])

    def test_rows_beyond_the_root(self):
        # They are not rows of the root; no part has them, and none is an error.
        for row in (-1000, -1, 100, 101, 1000):
            self.assertEqual(under(SAMPLE, START, row), ((1,), None), row)
        self.assertEqual(under(scroller(1, 0, block(2, 5)), {1: 0}, 0), ((1,), None))

    def test_target_is_the_block_of_the_picture(self):
        for offsets in sample_offsets():
            targets = [under(SAMPLE, offsets, row)[1] for row in range(100)]
            self.assertEqual(targets, rows_of_the_picture(SAMPLE, offsets), offsets)

    def test_against_walking_down(self):
        for offsets in sample_offsets():
            for row in range(100):
                self.assertEqual(under(SAMPLE, offsets, row), walked_down(SAMPLE, offsets, row), (offsets, row))

    def test_forty_boxes(self):
        document = with_boxes(40)
        for offset in (0, 7, 290):
            offsets = fitted(document, {1: offset})
            for row in range(100):
                self.assertEqual(under(document, offsets, row), ((1,), 2 + (row + offset) // 10), (offset, row))


if __name__ == "__main__":
    unittest.main()
