"""Points 14 to 21: both threads together."""

import unittest

from samples import SAMPLE, block, scroller
from walks import commit_and_take, of_main, of_painter, of_state, of_system

from asyncframes.errors import Busy, NoneWaiting, NoSuchBox, NotAScroller, NotBegun, NotReady, RefusedEdit
from asyncframes.main_thread import MainThread
from asyncframes.painter import Painter, State
from asyncframes.systems import System
from asyncframes.texts import parse_document

ZERO = {1: 0, 3: 0, 5: 0, 10: 0}
STAIRS = scroller(1, 100, block(2, 80), block(3, 80), block(4, 80))
EMPTY = scroller(1, 10)


class AtFirst(unittest.TestCase):
    def test_both_threads(self):
        for document, offsets in ((SAMPLE, sorted(ZERO.items())), (EMPTY, [(1, 0)])):
            system = System(document)
            self.assertIsInstance(system.main, MainThread)
            self.assertIsInstance(system.painter, Painter)
            self.assertIsInstance(system.painter.active, State)
            self.assertEqual(of_main(system.main), (document, offsets, [], []))
            self.assertEqual(of_painter(system.painter), ((0, document, offsets, [], 0, []), None, [], []))

    def test_no_frames(self):
        system = System(SAMPLE)
        self.assertEqual(system.frames(), [])
        self.assertEqual(system.histories(), [])

    def test_first_errors(self):
        system = System(EMPTY)
        self.assertRaises(NotBegun, system.commit)
        self.assertRaises(NotReady, system.take)
        self.assertRaises(NoneWaiting, system.answer, True)

    def test_systems_share_nothing(self):
        one = System(STAIRS)
        other = System(STAIRS)
        one.edit(("remove", 2))
        one.hold(4)
        one.scroll(0, 9)
        one.paint()
        one.draw()
        one.begin()
        one.commit()
        self.assertEqual(of_system(other), of_system(System(STAIRS)))
        self.assertRaises(NotBegun, other.commit)


class Example(unittest.TestCase):
    def test_the_example_of_the_document(self):
        system = System(parse_document("s1:100[b2:80 b3:80 b4:80]"))
        self.assertEqual(system.scroll(10, 50), ((1, 50),))
        self.assertEqual(system.draw(), (0, 1, [(2, -50, 0, 30, False), (3, 30, 30, 100, False)]))
        self.assertEqual(system.begin(), 1)
        self.assertIsNone(system.edit(("insert", 1, 0, ("block", 5, 40))))
        self.assertEqual(system.main.offsets, {1: 90})
        self.assertEqual(system.commit(), 1)
        self.assertEqual(system.paint(), 2)
        self.assertEqual(system.paint(), 3)
        self.assertEqual(system.take(), 1)
        self.assertEqual(system.draw(), (1, 1, [(2, -50, 0, 30, True), (3, 30, 30, 100, True)]))
        self.assertEqual(system.histories(), [
            [("moves", ((1, 50),))],
            [("moves", ((1, 50),)), ("edit", ("insert", 1, 0, ("block", 5, 40)))],
        ])
        self.assertEqual(system.frames(), [
            (0, 1, [(2, -50, 0, 30, False), (3, 30, 30, 100, False)]),
            (1, 1, [(2, -50, 0, 30, True), (3, 30, 30, 100, True)]),
        ])


class MainSteps(unittest.TestCase):
    def test_edits_and_sets(self):
        system = System(STAIRS)
        self.assertIsNone(system.set_offset(1, 50))
        self.assertIsNone(system.edit(("insert", 1, 0, block(5, 40))))
        self.assertIsNone(system.set_offset(1, 5000))
        self.assertEqual(system.main.offsets, {1: 180})
        self.assertEqual(
            system.main.deeds, [("set", 1, 50), ("edit", ("insert", 1, 0, block(5, 40))), ("set", 1, 5000)],
        )

    def test_errors_change_nothing(self):
        system = System(SAMPLE)
        system.set_offset(1, 45)
        before = of_system(system)
        wrong = (
            (NoSuchBox, system.set_offset, (12, 3)),
            (NotAScroller, system.set_offset, (2, 3)),
            (NoSuchBox, system.edit, (("remove", 12),)),
            (NotAScroller, system.edit, (("insert", 4, 0, block(20)),)),
            (RefusedEdit, system.edit, (("remove", 1),)),
        )
        for error, method, arguments in wrong:
            self.assertRaises(error, method, *arguments)
            self.assertEqual(of_system(system), before)

    def test_holding(self):
        system = System(SAMPLE)
        self.assertIs(system.hold(5), True)
        self.assertIs(system.hold(3), True)
        self.assertIs(system.hold(5), False)
        self.assertEqual(system.main.held, [3, 5])
        self.assertIs(system.release(4), False)
        self.assertIs(system.release(5), True)
        self.assertIs(system.release(5), False)
        self.assertEqual(system.main.held, [3])

    def test_the_painter_sees_nothing_of_it(self):
        system = System(SAMPLE)
        before = of_painter(system.painter)
        system.set_offset(1, 5)
        system.edit(("remove", 3))
        system.hold(1)
        system.release(2)
        system.begin()
        self.assertEqual(of_painter(system.painter), before)
        self.assertEqual(system.scroll(90, 1), ((5, 1),))


class Beginning(unittest.TestCase):
    def test_nothing_to_tell(self):
        system = System(SAMPLE)
        self.assertEqual(system.begin(), 0)
        self.assertEqual(system.main.deeds, [])
        self.assertEqual(system.main.offsets, ZERO)

    def test_all_moves_once(self):
        system = System(SAMPLE)
        system.scroll(90, 25)
        system.scroll(0, 10)
        self.assertEqual(system.main.offsets, ZERO)
        self.assertEqual(system.begin(), 3)
        self.assertEqual(system.main.offsets, {1: 10, 3: 5, 5: 20, 10: 0})
        self.assertEqual(system.begin(), 0)
        system.scroll(0, -3)
        self.assertEqual(system.begin(), 1)
        self.assertEqual(system.begin(), 0)
        self.assertEqual(system.main.offsets, {1: 7, 3: 5, 5: 20, 10: 0})
        self.assertEqual(system.main.deeds, [("moves", ((5, 20), (3, 5), (1, 10))), ("moves", ((1, -3),))])

    def test_moves_of_answers_are_told(self):
        system = System(STAIRS)
        system.hold(2)
        commit_and_take(system)
        self.assertIsNone(system.scroll(0, 9))
        self.assertEqual(system.begin(), 0)
        self.assertEqual(system.answer(True), ((1, 9),))
        self.assertEqual(system.begin(), 1)
        self.assertEqual(system.main.offsets, {1: 9})

    def test_moves_over_what_the_main_thread_has_by_then(self):
        system = System(STAIRS)
        system.scroll(0, 100)
        system.set_offset(1, 130)
        self.assertEqual(system.begin(), 1)
        self.assertEqual(system.main.offsets, {1: 140})
        self.assertEqual(system.main.deeds, [("set", 1, 130), ("moves", ((1, 100),))])

    def test_the_scroller_of_a_move_is_gone(self):
        system = System(SAMPLE)
        system.scroll(90, 25)
        system.edit(("remove", 5))
        self.assertEqual(system.begin(), 2)
        # Nothing is left to scroll in scroller 3, either.
        self.assertEqual(system.main.offsets, {1: 0, 3: 0, 10: 0})
        self.assertEqual(system.main.deeds, [("edit", ("remove", 5)), ("moves", ((5, 20), (3, 5)))])

    def test_the_scroller_of_a_move_is_a_block_now(self):
        system = System(SAMPLE)
        system.scroll(90, 25)
        system.edit(("remove", 3))
        system.edit(("insert", 1, 0, block(5, 90)))
        self.assertEqual(system.begin(), 2)
        self.assertEqual(system.main.offsets, {1: 0, 10: 0})


class Committing(unittest.TestCase):
    def test_the_state(self):
        system = System(SAMPLE)
        system.scroll(90, 25)
        system.begin()
        system.edit(("resize", 2, 31))
        system.set_offset(1, 9)
        system.hold(7)
        system.hold(70)
        system.scroll(0, 4)
        self.assertEqual(system.commit(), 1)
        document = system.main.document
        self.assertEqual(
            of_state(system.painter.pending), (1, document, [(1, 9), (3, 5), (5, 20), (10, 0)], [7, 70], 2, []),
        )
        self.assertEqual(system.painter.pending.view(system.painter.moves), {1: 13, 3: 5, 5: 20, 10: 0})

    def test_without_a_beginning(self):
        system = System(EMPTY)
        system.hold(1)
        before = of_system(system)
        self.assertRaises(NotBegun, system.commit)
        self.assertEqual(of_system(system), before)

    def test_twice_after_one_beginning(self):
        system = System(EMPTY)
        system.begin()
        self.assertEqual(system.commit(), 1)
        system.take()
        before = of_system(system)
        self.assertRaises(NotBegun, system.commit)
        self.assertEqual(of_system(system), before)
        system.begin()
        self.assertEqual(system.commit(), 2)

    def test_while_a_state_is_pending(self):
        system = System(EMPTY)
        system.begin()
        system.commit()
        system.begin()
        before = of_system(system)
        for _ in range(2):
            self.assertRaises(Busy, system.commit)
            self.assertEqual(of_system(system), before)
        # The error took no number, and the beginning still counts.
        self.assertEqual(system.take(), 1)
        self.assertEqual(system.commit(), 2)
        self.assertRaises(NotBegun, system.commit)

    def test_not_begun_comes_before_busy(self):
        system = System(EMPTY)
        system.begin()
        system.commit()
        self.assertRaises(NotBegun, system.commit)
        system.begin()
        self.assertRaises(Busy, system.commit)

    def test_several_beginnings_before_one_commit(self):
        system = System(EMPTY)
        system.begin()
        system.begin()
        system.commit()
        self.assertRaises(NotBegun, system.commit)

    def test_numbers_count_on(self):
        system = System(EMPTY)
        for number in range(1, 6):
            system.begin()
            self.assertEqual(system.commit(), number)
            self.assertEqual(system.painter.pending.number, number)
            self.assertEqual(system.take(), number)
            self.assertEqual(system.painter.active.number, number)

    def test_included_moves_are_those_told(self):
        system = System(STAIRS)
        system.scroll(0, 1)
        system.scroll(0, 2)
        system.begin()
        system.scroll(0, 3)
        system.commit()
        self.assertEqual(system.painter.pending.included, 2)
        self.assertEqual(system.painter.active.included, 0)
        self.assertEqual(system.painter.pending.view(system.painter.moves), {1: 6})

    def test_the_state_stays_as_it_was_committed(self):
        system = System(SAMPLE)
        system.hold(3)
        system.set_offset(1, 4)
        system.begin()
        system.commit()
        before = of_state(system.painter.pending)
        system.hold(4)
        system.release(3)
        system.set_offset(1, 8)
        system.edit(("remove", 2))
        system.scroll(0, 2)
        system.begin()
        self.assertEqual(of_state(system.painter.pending), before)

    def test_the_first_state_stays_as_it_was(self):
        system = System(SAMPLE)
        before = of_state(system.painter.active)
        system.hold(4)
        system.set_offset(1, 8)
        system.scroll(0, 2)
        system.begin()
        system.commit()
        self.assertEqual(of_state(system.painter.active), before)


class PainterSteps(unittest.TestCase):
    def held(self, *numbers):
        """A system in whose active state these numbers are held."""
        system = System(SAMPLE)
        for number in numbers:
            system.hold(number)
        system.begin()
        system.commit()
        for _ in range(3):
            system.paint()
        system.take()
        return system

    def test_scrolls(self):
        system = System(SAMPLE)
        self.assertEqual(system.scroll(0, 0), ())
        self.assertEqual(system.scroll(90, 25), ((5, 20), (3, 5)))
        self.assertEqual(system.scroll(90, -60), ((5, -20), (3, -5)))
        self.assertEqual(system.scroll(40, -1), ())
        self.assertEqual(system.painter.moves, [(5, 20), (3, 5), (5, -20), (3, -5)])

    def test_held_numbers_count_when_they_are_taken_over(self):
        system = System(SAMPLE)
        system.hold(1)
        self.assertEqual(system.scroll(0, 3), ((1, 3),))
        system.begin()
        system.commit()
        self.assertEqual(system.scroll(0, 3), ((1, 3),))
        for _ in range(4):
            system.paint()
        system.take()
        system.release(1)
        self.assertIsNone(system.scroll(0, 3))
        self.assertEqual(system.painter.waiting, [((1,), 3)])

    def test_waiting_scrolls(self):
        system = self.held(3, 2)
        self.assertEqual(system.scroll(0, 0), ())
        self.assertIsNone(system.scroll(0, 8))
        self.assertIsNone(system.scroll(90, 45))
        self.assertEqual(system.painter.waiting, [((1,), 8), ((5, 3, 1), 45)])
        self.assertEqual(system.answer(False), ())
        self.assertEqual(system.answer(True), ((5, 20), (3, 25)))
        self.assertRaises(NoneWaiting, system.answer, True)
        self.assertRaises(NoneWaiting, system.answer, False)

    def test_a_waiting_scroll_whose_scroller_is_gone(self):
        system = self.held(3)
        system.scroll(90, 45)
        system.edit(("remove", 5))
        system.edit(("resize", 3, 60))
        commit_and_take(system)
        self.assertEqual(system.answer(True), ((3, 10), (1, 25)))

    def test_painting_and_taking_over(self):
        system = System(SAMPLE)
        self.assertEqual(system.paint(), 2)
        system.edit(("resize", 4, 45))
        system.begin()
        system.commit()
        self.assertRaises(NotReady, system.take)
        self.assertEqual(system.painter.pending.painted, [2])
        self.assertEqual([system.paint(), system.paint()], [4, 6])
        self.assertEqual(system.painter.active.painted, [2])
        self.assertEqual(system.take(), 1)
        self.assertRaises(NotReady, system.take)
        self.assertEqual([system.paint() for _ in range(5)], [7, 8, 9, 11, None])

    def test_blocks_that_are_painted_after_the_commit(self):
        system = System(SAMPLE)
        system.begin()
        system.commit()
        self.assertEqual([system.paint() for _ in range(3)], [2, 4, 6])
        system.begin()
        system.take()
        self.assertEqual(system.paint(), 7)
        system.commit()
        self.assertEqual(system.painter.pending.painted, [2, 4, 6, 7])
        self.assertEqual(system.paint(), 8)
        self.assertEqual(system.painter.active.painted, [2, 4, 6, 7])

    def test_a_block_with_its_old_height_again(self):
        system = System(scroller(1, 10, block(2, 5)))
        system.paint()
        for height, painted in ((6, []), (5, [])):
            system.edit(("resize", 2, height))
            system.begin()
            system.commit()
            self.assertEqual(system.painter.pending.painted, painted)
            self.assertEqual(system.paint(), 2)
            system.take()

    def test_moves_made_after_the_commit(self):
        system = System(STAIRS)
        system.begin()
        system.commit()
        self.assertEqual([system.paint(), system.paint()], [2, 3])
        system.scroll(0, 80)
        self.assertRaises(NotReady, system.take)
        self.assertEqual(system.paint(), 4)
        self.assertEqual(system.take(), 1)
        self.assertEqual(system.draw(), (1, 1, [(3, 0, 0, 80, True), (4, 80, 80, 100, True)]))


class Drawing(unittest.TestCase):
    def test_frames_are_kept_in_order(self):
        system = System(STAIRS)
        frames = [system.draw()]
        system.scroll(0, 30)
        frames.append(system.draw())
        frames.append(system.draw())
        system.paint()
        frames.append(system.draw())
        self.assertEqual(system.frames(), frames)
        self.assertEqual(frames[1], frames[2])
        self.assertEqual([frame[1] for frame in frames], [0, 1, 1, 1])
        self.assertEqual(frames[3], (0, 1, [(2, -30, 0, 50, True), (3, 50, 50, 100, False)]))

    def test_frames_stay_as_they_were(self):
        system = System(STAIRS)
        system.scroll(0, 50)
        system.draw()
        expected = [(0, 1, [(2, -50, 0, 30, False), (3, 30, 30, 100, False)])]
        histories = [[("moves", ((1, 50),))]]
        system.paint()
        system.scroll(0, 90)
        system.begin()
        system.edit(("remove", 3))
        system.hold(1)
        system.commit()
        system.paint()
        system.take()
        self.assertEqual(system.frames(), expected)
        self.assertEqual(system.histories(), histories)
        system.draw()
        self.assertEqual(system.frames()[:1], expected)
        self.assertEqual(system.histories()[:1], histories)

    def test_drawing_changes_nothing_else(self):
        system = System(STAIRS)
        system.scroll(0, 50)
        system.paint()
        before = of_main(system.main), of_painter(system.painter)
        system.draw()
        self.assertEqual((of_main(system.main), of_painter(system.painter)), before)


if __name__ == "__main__":
    unittest.main()
