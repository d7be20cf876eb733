import unittest

from samples import SAMPLE, block, nested, scroller, with_boxes

from asyncframes.boxes import all_boxes, find, is_document, parent_of


class AllBoxes(unittest.TestCase):
    def test_tree_order(self):
        boxes = all_boxes(SAMPLE)
        self.assertIsInstance(boxes, list)
        self.assertEqual([box[1] for box in boxes], [1, 2, 3, 4, 5, 6, 7, 8, 9, 10, 11])

    def test_tree_order_is_not_the_order_of_the_numbers(self):
        document = scroller(50, 1, scroller(9, 1, block(40), block(3)), block(7), scroller(2, 1, block(1)))
        self.assertEqual([box[1] for box in all_boxes(document)], [50, 9, 40, 3, 7, 2, 1])

    def test_the_boxes_are_whole(self):
        boxes = all_boxes(SAMPLE)
        self.assertEqual(boxes[0], SAMPLE)
        self.assertEqual(boxes[1], ("block", 2, 30))
        self.assertEqual(boxes[2], SAMPLE[3][1])
        self.assertEqual(boxes[9], ("scroller", 10, 20, ()))

    def test_root_alone(self):
        self.assertEqual(all_boxes(scroller(5, 0)), [("scroller", 5, 0, ())])

    def test_forty_boxes(self):
        self.assertEqual([box[1] for box in all_boxes(with_boxes(40))], list(range(1, 41)))

    def test_block_of_the_fourth_scroller(self):
        self.assertEqual([box[1] for box in all_boxes(nested(4, [block(5)]))], [1, 2, 3, 4, 5])


class Find(unittest.TestCase):
    def test_each_box(self):
        for box in all_boxes(SAMPLE):
            self.assertEqual(find(SAMPLE, box[1]), box)

    def test_particular_boxes(self):
        self.assertEqual(find(SAMPLE, 1), SAMPLE)
        self.assertEqual(find(SAMPLE, 7), ("block", 7, 0))
        self.assertEqual(find(SAMPLE, 10), ("scroller", 10, 20, ()))
        self.assertEqual(find(SAMPLE, 5)[3][2], ("block", 8, 35))

    def test_no_such_box(self):
        for number in (-1, 0, 12, 15, 30, 80, 100, 999, 1000):
            self.assertIsNone(find(SAMPLE, number), number)


class ParentOf(unittest.TestCase):
    def test_each_box(self):
        parents = {2: 1, 3: 1, 10: 1, 11: 1, 4: 3, 5: 3, 9: 3, 6: 5, 7: 5, 8: 5}
        for number, parent in parents.items():
            self.assertEqual(parent_of(SAMPLE, number), parent, number)

    def test_root_has_none(self):
        self.assertIsNone(parent_of(SAMPLE, 1))
        self.assertIsNone(parent_of(scroller(7, 3), 7))

    def test_no_such_box(self):
        for number in (-1, 0, 12, 15, 30, 80, 100, 999, 1000):
            self.assertIsNone(parent_of(SAMPLE, number), number)


class IsDocument(unittest.TestCase):
    def assert_document(self, box, expected):
        self.assertIs(is_document(box), expected, box)

    def test_ordinary(self):
        self.assert_document(SAMPLE, True)
        self.assert_document(scroller(3, 7), True)

    def test_a_block_alone_is_none(self):
        self.assert_document(block(1), False)
        self.assert_document(block(1, 0), False)

    def test_numbers(self):
        for number, expected in ((-1, False), (0, False), (1, True), (999, True), (1000, False), (10 ** 9, False)):
            self.assert_document(scroller(number, 10), expected)
            self.assert_document(scroller(500, 10, block(number)), expected)
            self.assert_document(scroller(500, 10, scroller(number, 10), block(2)), expected)
            self.assert_document(scroller(500, 10, block(2), scroller(501, 10, block(3), block(number))), expected)

    def test_heights(self):
        for height, expected in ((-1, False), (0, True), (1000, True), (1001, False), (-1000, False), (10 ** 9, False)):
            self.assert_document(scroller(1, height), expected)
            self.assert_document(scroller(1, 10, block(2, height)), expected)
            self.assert_document(scroller(1, 10, scroller(2, height), block(3)), expected)
            self.assert_document(scroller(1, 10, block(3), scroller(4, 10, block(5), block(2, height))), expected)

    def test_a_height_may_be_what_no_number_may_be(self):
        self.assert_document(scroller(999, 1000, block(1, 0)), True)
        self.assert_document(scroller(1000, 999), False)
        self.assert_document(scroller(0, 1), False)

    def test_number_twice(self):
        self.assert_document(scroller(1, 10, block(2), block(2)), False)
        self.assert_document(scroller(1, 10, block(1)), False)
        self.assert_document(scroller(1, 10, scroller(1, 10)), False)
        self.assert_document(scroller(1, 10, scroller(2, 10, block(3)), block(3)), False)
        self.assert_document(scroller(1, 10, scroller(2, 10, block(3)), scroller(4, 10, block(3))), False)
        self.assert_document(scroller(1, 10, block(2, 30), block(3, 40), block(2, 50)), False)

    def test_heights_may_be_the_same(self):
        self.assert_document(scroller(1, 2, block(2, 2), block(3, 2), scroller(4, 2)), True)

    def test_many_boxes(self):
        self.assert_document(with_boxes(39), True)
        self.assert_document(with_boxes(40), True)
        self.assert_document(with_boxes(41), False)
        self.assert_document(with_boxes(60), False)

    def test_many_boxes_in_several_scrollers(self):
        left = scroller(100, 10, *[block(number) for number in range(101, 120)])
        for many, expected in ((18, True), (19, False)):
            right = scroller(200, 10, *[block(number) for number in range(201, 201 + many)])
            self.assertEqual(len(all_boxes(scroller(1, 10, left, right))), 22 + many)
            self.assert_document(scroller(1, 10, left, right), expected)

    def test_many_scrollers_beside_one_another(self):
        self.assert_document(scroller(1, 10, *[scroller(number, 10) for number in range(2, 41)]), True)

    def test_scrollers_within_one_another(self):
        self.assert_document(nested(3), True)
        self.assert_document(nested(4), True)
        self.assert_document(nested(5), False)
        self.assert_document(nested(6), False)

    def test_blocks_do_not_count_as_scrollers(self):
        self.assert_document(nested(4, [block(5), block(6)]), True)

    def test_the_deepest_scroller_stands_anywhere(self):
        inner = scroller(2, 10, scroller(3, 10, scroller(4, 10)))
        deeper = scroller(2, 10, scroller(3, 10, block(6), scroller(4, 10, scroller(5, 10)), block(7)))
        for before, behind in (([], []), ([block(8)], []), ([], [scroller(8, 1)]), ([scroller(9, 1)], [block(8)])):
            self.assert_document(scroller(1, 10, *before, inner, *behind), True)
            self.assert_document(scroller(1, 10, *before, deeper, *behind), False)

    def test_far_beyond_the_limits(self):
        self.assert_document(nested(150), False)
        self.assert_document(with_boxes(300), False)


if __name__ == "__main__":
    unittest.main()
