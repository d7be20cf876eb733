"""Points 14 and 16: the main thread."""

import unittest

from samples import SAMPLE, block, scroller
from walks import of_main

from asyncframes.edits import edited
from asyncframes.errors import NoSuchBox, NotAScroller, RefusedEdit
from asyncframes.main_thread import MainThread
from asyncframes.plain import plain_run

ZERO = {1: 0, 3: 0, 5: 0, 10: 0}
STAIRS = scroller(1, 100, block(2, 80), block(3, 80), block(4, 80))


class AtFirst(unittest.TestCase):
    def test_fields(self):
        main = MainThread(SAMPLE)
        self.assertEqual(main.document, SAMPLE)
        self.assertEqual(main.offsets, ZERO)
        self.assertEqual(main.held, [])
        self.assertEqual(main.deeds, [])

    def test_a_document_without_parts(self):
        main = MainThread(scroller(7, 0))
        self.assertEqual(of_main(main), (scroller(7, 0), [(7, 0)], [], []))

    def test_threads_of_one_document_are_two(self):
        one = MainThread(SAMPLE)
        other = MainThread(SAMPLE)
        one.hold(3)
        one.do(("set", 1, 5))
        one.do(("edit", ("remove", 2)))
        one.tell([(3, 4)])
        self.assertEqual(of_main(other), (SAMPLE, sorted(ZERO.items()), [], []))


class Doing(unittest.TestCase):
    def test_a_set(self):
        main = MainThread(SAMPLE)
        self.assertIsNone(main.do(("set", 3, 12)))
        self.assertEqual(main.offsets, {1: 0, 3: 12, 5: 0, 10: 0})
        self.assertEqual(main.document, SAMPLE)
        self.assertEqual(main.deeds, [("set", 3, 12)])

    def test_a_set_is_kept_as_it_was(self):
        main = MainThread(SAMPLE)
        main.do(("set", 1, 1000))
        main.do(("set", 3, -5))
        main.do(("set", 10, 0))
        self.assertEqual(main.offsets, {1: 45, 3: 0, 5: 0, 10: 0})
        self.assertEqual(main.deeds, [("set", 1, 1000), ("set", 3, -5), ("set", 10, 0)])

    def test_an_edit(self):
        main = MainThread(STAIRS)
        main.do(("set", 1, 50))
        edit = ("insert", 1, 0, block(5, 40))
        self.assertIsNone(main.do(("edit", edit)))
        self.assertEqual(main.document, edited(STAIRS, edit))
        self.assertEqual(main.offsets, {1: 90})
        self.assertEqual(main.deeds, [("set", 1, 50), ("edit", edit)])

    def test_an_edit_that_brings_a_scroller_and_one_that_takes_it(self):
        main = MainThread(STAIRS)
        main.do(("edit", ("insert", 1, 3, scroller(6, 5, block(7, 9)))))
        self.assertEqual(main.offsets, {1: 0, 6: 0})
        main.do(("set", 6, 3))
        main.do(("edit", ("remove", 6)))
        self.assertEqual(main.offsets, {1: 0})
        self.assertEqual(main.document, STAIRS)
        self.assertEqual(len(main.deeds), 3)

    def test_the_deeds_lead_to_the_thread(self):
        main = MainThread(SAMPLE)
        main.do(("set", 1, 20))
        main.tell([(1, 7), (5, 3), (1, -2)])
        main.do(("edit", ("resize", 2, 1)))
        main.tell(((3, 50), (12, 4)))
        main.do(("edit", ("remove", 5)))
        self.assertEqual(plain_run(SAMPLE, main.deeds), (main.document, main.offsets))

    def test_errors_change_nothing(self):
        main = MainThread(SAMPLE)
        main.do(("set", 1, 45))
        main.hold(3)
        before = of_main(main)
        wrong = (
            (NoSuchBox, ("set", 12, 3)),
            (NotAScroller, ("set", 2, 3)),
            (NoSuchBox, ("edit", ("remove", 12))),
            (NoSuchBox, ("edit", ("resize", 12, 1))),
            (NoSuchBox, ("edit", ("insert", 12, 0, block(20)))),
            (NotAScroller, ("edit", ("insert", 2, 0, block(20)))),
            (RefusedEdit, ("edit", ("insert", 1, 5, block(20)))),
            (RefusedEdit, ("edit", ("insert", 1, 0, block(11)))),
            (RefusedEdit, ("edit", ("remove", 1))),
            (RefusedEdit, ("edit", ("resize", 2, -1))),
        )
        for error, deed in wrong:
            self.assertRaises(error, main.do, deed)
            self.assertEqual(of_main(main), before)


class Holding(unittest.TestCase):
    def test_numbers_are_kept_ascending(self):
        main = MainThread(SAMPLE)
        for number in (5, 3, 999, 2, 10):
            self.assertIs(main.hold(number), True)
        self.assertEqual(main.held, [2, 3, 5, 10, 999])

    def test_a_number_that_no_box_has(self):
        main = MainThread(SAMPLE)
        self.assertIs(main.hold(77), True)
        self.assertEqual(main.held, [77])
        self.assertIs(main.release(77), True)
        self.assertEqual(main.held, [])

    def test_a_number_that_is_held_already(self):
        main = MainThread(SAMPLE)
        main.hold(3)
        self.assertIs(main.hold(3), False)
        self.assertEqual(main.held, [3])
        self.assertIs(main.release(3), True)
        self.assertEqual(main.held, [])

    def test_releasing(self):
        main = MainThread(SAMPLE)
        for number in (2, 3, 5):
            main.hold(number)
        self.assertIs(main.release(3), True)
        self.assertEqual(main.held, [2, 5])
        self.assertIs(main.release(3), False)
        self.assertIs(main.release(4), False)
        self.assertEqual(main.held, [2, 5])
        self.assertIs(main.hold(3), True)
        self.assertEqual(main.held, [2, 3, 5])

    def test_releasing_when_nothing_is_held(self):
        main = MainThread(SAMPLE)
        self.assertIs(main.release(1), False)
        self.assertEqual(main.held, [])

    def test_holding_is_no_deed(self):
        main = MainThread(SAMPLE)
        main.hold(3)
        main.release(3)
        main.hold(1)
        self.assertEqual(of_main(main), (SAMPLE, sorted(ZERO.items()), [1], []))

    def test_held_numbers_do_not_go_with_their_boxes(self):
        main = MainThread(SAMPLE)
        main.hold(5)
        main.do(("edit", ("remove", 3)))
        self.assertEqual(main.held, [5])

    def test_held_boxes_can_be_edited_and_set(self):
        main = MainThread(SAMPLE)
        main.hold(3)
        main.do(("set", 3, 4))
        main.tell([(3, 1)])
        main.do(("edit", ("resize", 3, 79)))
        self.assertEqual(main.offsets[3], 5)


class Telling(unittest.TestCase):
    def test_no_moves(self):
        main = MainThread(SAMPLE)
        for moves in ([], ()):
            self.assertIsNone(main.tell(moves))
            self.assertEqual(of_main(main), (SAMPLE, sorted(ZERO.items()), [], []))

    def test_many_moves_as_a_list_and_as_a_tuple(self):
        moves = [(1, 30), (3, 100), (1, -5), (5, -1)]
        for handed in (moves, tuple(moves)):
            main = MainThread(SAMPLE)
            self.assertIsNone(main.tell(handed))
            self.assertEqual(main.offsets, {1: 25, 3: 30, 5: 0, 10: 0})
            self.assertEqual(main.deeds, [("moves", ((1, 30), (3, 100), (1, -5), (5, -1)))])
            self.assertEqual(list(handed), moves)

    def test_moves_are_brought_into_the_range_one_by_one(self):
        main = MainThread(SAMPLE)
        main.tell([(1, 100), (1, -20)])
        self.assertEqual(main.offsets[1], 25)
        main.tell([(1, -100), (1, 7)])
        self.assertEqual(main.offsets[1], 7)
        self.assertEqual(len(main.deeds), 2)

    def test_moves_of_no_scrollers_are_a_deed_too(self):
        main = MainThread(SAMPLE)
        main.tell([(12, 5), (2, 5)])
        self.assertEqual(main.offsets, ZERO)
        self.assertEqual(main.deeds, [("moves", ((12, 5), (2, 5)))])

    def test_a_list_that_is_changed_later(self):
        main = MainThread(SAMPLE)
        moves = [(1, 5)]
        main.tell(moves)
        moves.append((1, 6))
        self.assertEqual(main.deeds, [("moves", ((1, 5),))])


if __name__ == "__main__":
    unittest.main()
