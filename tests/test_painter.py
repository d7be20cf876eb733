"""Points 15 and 17 to 21: the painter by itself."""

import unittest

from samples import SAMPLE, block, scroller
from walks import of_painter, of_state, paint_all

from asyncframes.edits import edited
from asyncframes.errors import Busy, NoneWaiting, NotReady
from asyncframes.layout import fitted
from asyncframes.painter import Painter, State

ZERO = {1: 0, 3: 0, 5: 0, 10: 0}


def state_of(document, number=0, held=(), included=0, **base):
    """A state; the offsets are given as s1=5 for the scroller 1."""
    offsets = {int(name[1:]): offset for name, offset in base.items()}
    return State(number, document, fitted(document, offsets), list(held), included)


def painter_of(document, held=(), **base):
    return Painter(state_of(document, 0, held, 0, **base))


class AtFirst(unittest.TestCase):
    def test_fields(self):
        painter = Painter(State(3, SAMPLE, {1: 5, 3: 0, 5: 2, 10: 0}, [3], 0))
        self.assertEqual(of_state(painter.active), (3, SAMPLE, [(1, 5), (3, 0), (5, 2), (10, 0)], [3], 0, []))
        self.assertIsNone(painter.pending)
        self.assertEqual(painter.moves, [])
        self.assertEqual(painter.waiting, [])

    def test_painters_share_nothing(self):
        one = painter_of(SAMPLE, [3])
        other = painter_of(SAMPLE, [3])
        one.scroll(0, 5)
        one.scroll(40, 5)
        one.receive(state_of(SAMPLE, 1))
        one.paint()
        self.assertEqual(of_painter(other), ((0, SAMPLE, sorted(ZERO.items()), [3], 0, []), None, [], []))


class Scrolling(unittest.TestCase):
    def test_the_path_is_scrolled_from_the_inside(self):
        painter = painter_of(SAMPLE)
        self.assertEqual(painter.scroll(90, 25), ((5, 20), (3, 5)))
        self.assertEqual(painter.moves, [(5, 20), (3, 5)])
        self.assertEqual(painter.active.view(painter.moves), {1: 0, 3: 5, 5: 20, 10: 0})
        self.assertEqual(painter.active.base, ZERO)

    def test_the_view_counts_and_not_the_base(self):
        painter = painter_of(SAMPLE, s1=0)
        # Row 20 shows block 2 first and, 30 rows further down, scroller 3.
        self.assertEqual(painter.scroll(20, 30), ((1, 30),))
        self.assertEqual(painter.scroll(20, 10), ((3, 10),))
        self.assertEqual(painter.scroll(90, 50), ((1, 15),))
        self.assertEqual(painter.scroll(10, -45), ((3, -10), (1, -35)))
        self.assertEqual(painter.moves, [(1, 30), (3, 10), (1, 15), (3, -10), (1, -35)])

    def test_the_included_moves_count_no_more(self):
        painter = painter_of(SAMPLE)
        painter.scroll(0, 30)
        painter.receive(state_of(SAMPLE, 1, (), 1, s1=10))
        paint_all(painter)
        painter.take()
        self.assertEqual(painter.active.view(painter.moves)[1], 10)
        self.assertEqual(painter.scroll(0, -30), ((1, -10),))
        self.assertEqual(painter.moves, [(1, 30), (1, -10)])

    def test_what_is_left_is_lost(self):
        painter = painter_of(SAMPLE)
        self.assertEqual(painter.scroll(90, 1000), ((5, 20), (3, 30), (1, 45)))
        self.assertEqual(painter.scroll(99, 1), ())
        self.assertEqual(len(painter.moves), 3)

    def test_a_scroll_that_moves_nothing(self):
        painter = painter_of(SAMPLE)
        self.assertEqual(painter.scroll(90, -7), ())
        self.assertEqual(of_painter(painter), of_painter(painter_of(SAMPLE)))

    def test_a_row_under_no_part(self):
        painter = painter_of(scroller(1, 50, block(2, 20), scroller(3, 20, block(4, 5)), block(5, 60)), s1=50)
        self.assertEqual(painter.scroll(0, -60), ((1, -50),))
        # Row 30 lies in scroller 3, but in no part of it.
        self.assertEqual(painter.scroll(30, 8), ((1, 8),))
        low = painter_of(scroller(1, 50, block(2, 20)))
        self.assertEqual(low.scroll(40, 3), ())

    def test_the_first_and_the_last_row(self):
        painter = painter_of(SAMPLE)
        self.assertEqual(painter.scroll(99, 2), ((5, 2),))
        self.assertEqual(painter.scroll(0, 1), ((1, 1),))

    def test_scrolls_belong_to_the_active_state(self):
        painter = painter_of(SAMPLE)
        painter.receive(state_of(edited(SAMPLE, ("remove", 3)), 1))
        self.assertEqual(painter.scroll(90, 5), ((5, 5),))


class Held(unittest.TestCase):
    def test_a_number_of_the_path(self):
        for number, rows in ((1, (0, 40, 90)), (3, (40, 90)), (5, (90,))):
            for row in (0, 40, 90):
                painter = painter_of(SAMPLE, [number])
                waits = painter.scroll(row, 1) is None
                self.assertEqual(waits, row in rows, (number, row))
                self.assertEqual(len(painter.waiting), int(waits))
                self.assertEqual(len(painter.moves), int(not waits))

    def test_the_target(self):
        for number, row, path in ((2, 0, (1,)), (4, 40, (3, 1)), (6, 90, (5, 3, 1))):
            painter = painter_of(SAMPLE, [number])
            self.assertIsNone(painter.scroll(row, 4))
            self.assertEqual(painter.waiting, [(path, 4)])
            self.assertEqual(painter.moves, [])

    def test_other_numbers(self):
        painter = painter_of(SAMPLE, [4, 7, 8, 9, 10, 11, 500])
        self.assertEqual(painter.scroll(0, 1), ((1, 1),))
        self.assertEqual(painter.scroll(90, 1), ((5, 1),))
        self.assertEqual(painter.waiting, [])

    def test_one_of_several(self):
        painter = painter_of(SAMPLE, [2, 500, 600])
        self.assertIsNone(painter.scroll(5, 3))
        self.assertEqual(painter.scroll(40, 3), ((3, 3),))

    def test_a_row_without_a_target(self):
        document = scroller(1, 50, scroller(3, 20, block(4, 5)), block(5, 60))
        self.assertIsNone(painter_of(document, [3]).scroll(10, 2))
        self.assertIsNone(painter_of(document, [1]).scroll(10, 2))
        self.assertEqual(painter_of(document, [4, 5]).scroll(10, 2), ((1, 2),))

    def test_the_amount_0_never_waits(self):
        for held in ([], [1], [2]):
            painter = painter_of(SAMPLE, held)
            self.assertEqual(painter.scroll(0, 0), ())
            self.assertEqual(of_painter(painter), of_painter(painter_of(SAMPLE, held)))

    def test_a_scroll_that_would_move_nothing_waits_too(self):
        painter = painter_of(SAMPLE, [1])
        self.assertIsNone(painter.scroll(0, -5))
        self.assertEqual(painter.waiting, [((1,), -5)])

    def test_waiting_scrolls_are_in_order(self):
        painter = painter_of(SAMPLE, [3])
        painter.scroll(40, 7)
        painter.scroll(90, -2)
        painter.scroll(0, 5)
        painter.scroll(40, 7)
        self.assertEqual(painter.waiting, [((3, 1), 7), ((5, 3, 1), -2), ((3, 1), 7)])
        self.assertEqual(painter.moves, [(1, 5)])

    def test_the_view_says_what_is_under_the_row(self):
        painter = painter_of(SAMPLE, [3])
        painter.scroll(0, 30)
        self.assertIsNone(painter.scroll(0, 1))
        self.assertEqual(painter.waiting, [((3, 1), 1)])

    def test_held_numbers_of_the_pending_state_do_not_count(self):
        painter = painter_of(SAMPLE)
        painter.receive(state_of(SAMPLE, 1, [1]))
        self.assertEqual(painter.scroll(0, 3), ((1, 3),))
        held = painter_of(SAMPLE, [1])
        held.receive(state_of(SAMPLE, 1))
        self.assertIsNone(held.scroll(0, 3))


class Answering(unittest.TestCase):
    def test_none_waiting(self):
        painter = painter_of(SAMPLE)
        painter.scroll(0, 3)
        before = of_painter(painter)
        for allowed in (True, False):
            self.assertRaises(NoneWaiting, painter.answer, allowed)
            self.assertEqual(of_painter(painter), before)

    def test_allowed(self):
        painter = painter_of(SAMPLE, [3])
        painter.scroll(90, 60)
        self.assertEqual(painter.answer(True), ((5, 20), (3, 30), (1, 10)))
        self.assertEqual(painter.moves, [(5, 20), (3, 30), (1, 10)])
        self.assertEqual(painter.waiting, [])
        self.assertRaises(NoneWaiting, painter.answer, True)

    def test_not_allowed(self):
        painter = painter_of(SAMPLE, [3])
        painter.scroll(90, 60)
        self.assertEqual(painter.answer(False), ())
        self.assertEqual(painter.moves, [])
        self.assertEqual(painter.waiting, [])
        self.assertRaises(NoneWaiting, painter.answer, False)

    def test_the_oldest_one_first(self):
        painter = painter_of(SAMPLE, [3])
        for amount in (1, 2, 4):
            painter.scroll(40, amount)
        self.assertEqual(painter.answer(True), ((3, 1),))
        self.assertEqual(painter.waiting, [((3, 1), 2), ((3, 1), 4)])
        self.assertEqual(painter.answer(False), ())
        self.assertEqual(painter.answer(True), ((3, 4),))
        self.assertEqual(painter.moves, [(3, 1), (3, 4)])

    def test_the_view_of_the_time_of_the_answer(self):
        painter = painter_of(SAMPLE, [3])
        painter.scroll(40, 10)
        painter.scroll(40, 40)
        painter.scroll(0, 44)
        self.assertEqual(painter.answer(True), ((3, 10),))
        self.assertEqual(painter.answer(True), ((3, 20), (1, 1)))

    def test_moves_join_behind_those_made_meanwhile(self):
        painter = painter_of(SAMPLE, [3])
        painter.scroll(40, 10)
        painter.scroll(0, 4)
        painter.answer(True)
        self.assertEqual(painter.moves, [(1, 4), (3, 10)])

    def test_a_scroll_that_moves_nothing(self):
        painter = painter_of(SAMPLE, [3])
        painter.scroll(40, -10)
        self.assertEqual(painter.answer(True), ())
        self.assertEqual(painter.moves, [])

    def taken_over(self, document, amount):
        """A painter with a waiting scroll of the path 5, 3, 1, and a new state."""
        painter = painter_of(SAMPLE, [3])
        self.assertIsNone(painter.scroll(90, amount))
        painter.receive(state_of(document, 1))
        paint_all(painter)
        painter.take()
        return painter

    def test_scrollers_that_are_gone(self):
        for number, moves in ((5, ((1, 45),)), (3, ((1, 35),))):
            document = edited(SAMPLE, ("remove", number))
            painter = self.taken_over(edited(document, ("insert", 1, 0, block(20, 70))), 45)
            self.assertEqual(painter.answer(True), moves)
            self.assertEqual(painter.moves, list(moves))

    def test_the_others_of_the_path_move(self):
        painter = self.taken_over(edited(SAMPLE, ("remove", 5)), 45)
        # Scroller 3 is as high as before, and nothing in it is left to scroll.
        self.assertEqual(painter.answer(True), ((1, 45),))
        painter = self.taken_over(edited(SAMPLE, ("resize", 5, 0)), 65)
        self.assertEqual(painter.answer(True), ((5, 60), (1, 5)))

    def test_a_number_that_a_block_has_now(self):
        document = edited(edited(SAMPLE, ("remove", 3)), ("insert", 1, 0, block(5, 90)))
        painter = self.taken_over(document, 1000)
        self.assertEqual(painter.answer(True), ((1, 55),))

    def test_a_path_of_which_only_the_root_may_be_left(self):
        painter = self.taken_over(scroller(8, 10, block(2, 90)), 5)
        self.assertEqual(painter.answer(True), ())
        self.assertEqual(painter.moves, [])

    def test_held_numbers_do_not_matter_then(self):
        painter = painter_of(SAMPLE, [3])
        painter.scroll(40, 9)
        painter.receive(state_of(SAMPLE, 1, [1, 3, 4]))
        paint_all(painter)
        painter.take()
        self.assertEqual(painter.answer(True), ((3, 9),))

    def test_a_pending_state_does_not_matter(self):
        painter = painter_of(SAMPLE, [3])
        painter.scroll(40, 9)
        painter.receive(state_of(edited(SAMPLE, ("remove", 3)), 1))
        self.assertEqual(painter.answer(True), ((3, 9),))


class Receiving(unittest.TestCase):
    def test_the_pending_state(self):
        painter = painter_of(SAMPLE)
        self.assertIsNone(painter.receive(State(7, SAMPLE, {1: 5, 3: 4, 5: 3, 10: 0}, [2, 44], 0)))
        self.assertEqual(
            of_state(painter.pending), (7, SAMPLE, [(1, 5), (3, 4), (5, 3), (10, 0)], [2, 44], 0, []),
        )
        self.assertEqual(painter.active.number, 0)

    def test_busy(self):
        painter = painter_of(SAMPLE)
        painter.paint()
        painter.receive(state_of(SAMPLE, 1))
        before = of_painter(painter)
        self.assertRaises(Busy, painter.receive, state_of(SAMPLE, 2))
        self.assertEqual(of_painter(painter), before)

    def test_a_state_after_one_was_taken(self):
        painter = painter_of(scroller(1, 0))
        painter.receive(state_of(scroller(1, 0), 1))
        painter.take()
        painter.receive(state_of(scroller(1, 0), 2))
        self.assertEqual(painter.pending.number, 2)

    def received(self, document, steps):
        """What is painted in a new state, behind so many steps of painting."""
        painter = painter_of(SAMPLE)
        for _ in range(steps):
            painter.paint()
        painter.receive(state_of(document, 1))
        return painter.pending.painted

    def test_blocks_that_are_painted_at_the_time(self):
        order = [2, 4, 6, 7, 8, 9, 11]
        for steps in range(8):
            self.assertEqual(self.received(SAMPLE, steps), order[:steps])

    def test_blocks_at_another_place(self):
        document = scroller(1, 9, block(11, 15), block(9, 20), scroller(3, 9, block(2, 30), scroller(5, 0, block(6, 25))))
        self.assertEqual(self.received(document, 7), [2, 6, 9, 11])

    def test_blocks_of_another_height(self):
        document = edited(edited(SAMPLE, ("resize", 4, 51)), ("resize", 7, 1))
        self.assertEqual(self.received(document, 7), [2, 6, 8, 9, 11])
        self.assertEqual(self.received(edited(SAMPLE, ("resize", 5, 1)), 7), [2, 4, 6, 7, 8, 9, 11])

    def test_blocks_that_are_new_or_gone(self):
        document = edited(edited(SAMPLE, ("remove", 2)), ("insert", 1, 0, block(20, 30)))
        self.assertEqual(self.received(document, 7), [4, 6, 7, 8, 9, 11])

    def test_numbers_that_scrollers_have_now_and_had_before(self):
        document = scroller(11, 15, block(3, 80), block(5, 40), block(1, 100), block(10, 20), scroller(2, 30, block(4, 50)))
        self.assertEqual(self.received(document, 7), [4])

    def test_a_state_that_was_painted_by_steps_already(self):
        state = state_of(SAMPLE, 1)
        Painter(state).paint()
        painter = painter_of(scroller(1, 50, block(4, 50), block(6, 24)))
        paint_all(painter)
        painter.receive(state)
        self.assertEqual(painter.pending.painted, [2, 4])

    def test_the_active_state_stays_painted_as_it_was(self):
        painter = painter_of(SAMPLE)
        painter.paint()
        painter.receive(state_of(SAMPLE, 1))
        painter.paint()
        painter.paint()
        self.assertEqual(painter.active.painted, [2])
        self.assertEqual(painter.pending.painted, [2, 4, 6])


class Painting(unittest.TestCase):
    def test_seen_blocks_first_and_then_the_others(self):
        painter = painter_of(SAMPLE)
        self.assertEqual(paint_all(painter), [2, 4, 6, 7, 8, 9, 11])
        self.assertEqual(painter.active.painted, [2, 4, 6, 7, 8, 9, 11])
        self.assertIsNone(painter.paint())
        self.assertEqual(painter.active.painted, [2, 4, 6, 7, 8, 9, 11])

    def test_numbers_are_not_the_order(self):
        document = scroller(1, 20, block(9, 10), scroller(4, 10, block(8, 5), block(3, 10)), block(7, 4), block(2, 6))
        painter = painter_of(document)
        self.assertEqual(paint_all(painter), [9, 8, 3, 7, 2])
        self.assertEqual(painter.active.painted, [2, 3, 7, 8, 9])
        other = painter_of(document, s1=10)
        self.assertEqual([other.paint() for _ in range(6)], [8, 3, 7, 2, 9, None])

    def test_painted_numbers_are_ascending_behind_each_step(self):
        painter = painter_of(scroller(1, 20, block(9, 10), block(3, 10), block(5, 1)))
        found = []
        while painter.paint() is not None:
            found.append(list(painter.active.painted))
        self.assertEqual(found, [[9], [3, 9], [3, 5, 9]])

    def test_the_view_counts_and_not_the_base(self):
        painter = painter_of(SAMPLE)
        painter.scroll(90, 100)
        self.assertEqual(paint_all(painter), [4, 6, 8, 9, 11, 2, 7])

    def test_another_view_between_the_steps(self):
        painter = painter_of(SAMPLE)
        self.assertEqual([painter.paint(), painter.paint()], [2, 4])
        painter.scroll(90, 100)
        self.assertEqual([painter.paint(), painter.paint()], [6, 8])
        painter.scroll(0, -1000)
        painter.scroll(90, -1000)
        self.assertEqual(paint_all(painter), [7, 9, 11])

    def test_blocks_that_scrolled_out_stay_painted(self):
        painter = painter_of(SAMPLE)
        painter.paint()
        painter.scroll(0, 45)
        self.assertEqual(painter.active.painted, [2])
        self.assertNotIn(2, paint_all(painter))

    def test_no_blocks(self):
        for document in (scroller(1, 10), scroller(1, 10, scroller(2, 5), scroller(3, 5, scroller(4, 5)))):
            painter = painter_of(document)
            self.assertIsNone(painter.paint())
            self.assertEqual(painter.active.painted, [])

    def test_a_root_without_rows(self):
        painter = painter_of(scroller(1, 0, block(3, 5), block(2, 5)))
        self.assertEqual(paint_all(painter), [3, 2])

    def test_the_pending_state_before_the_active_one(self):
        painter = painter_of(SAMPLE)
        painter.receive(state_of(scroller(1, 10, block(5, 4), block(3, 4), block(6, 9)), 1))
        self.assertEqual(paint_all(painter), [5, 3, 6])
        self.assertEqual(painter.pending.painted, [3, 5, 6])
        # Blocks of the active state are left, but it is not its turn.
        self.assertIsNone(painter.paint())
        self.assertEqual(painter.active.painted, [])

    def test_the_view_of_the_pending_state(self):
        painter = painter_of(SAMPLE)
        painter.scroll(90, 50)
        painter.receive(state_of(SAMPLE, 1, (), 1, s1=45))
        # Of the moves (5, 20) and (3, 30) the state has included the first.
        self.assertEqual(painter.moves, [(5, 20), (3, 30)])
        self.assertEqual(painter.pending.view(painter.moves), {1: 45, 3: 30, 5: 0, 10: 0})
        self.assertEqual(paint_all(painter), [4, 6, 8, 9, 11, 2, 7])

    def test_moves_behind_the_commit_change_the_order(self):
        painter = painter_of(scroller(1, 10, block(2, 10), block(3, 10), block(4, 10)))
        painter.receive(state_of(scroller(1, 10, block(2, 10), block(3, 10), block(4, 10)), 1))
        painter.scroll(0, 20)
        self.assertEqual(paint_all(painter), [4, 2, 3])

    def test_what_was_painted_before_is_left_out(self):
        painter = painter_of(SAMPLE)
        painter.paint()
        painter.receive(state_of(edited(SAMPLE, ("resize", 11, 16)), 1))
        self.assertEqual(paint_all(painter), [4, 6, 7, 8, 9, 11])

    def test_the_active_state_again_behind_a_taking_over(self):
        painter = painter_of(SAMPLE)
        painter.receive(state_of(SAMPLE, 1))
        for _ in range(4):
            painter.paint()
        painter.take()
        self.assertEqual(painter.paint(), 8)
        self.assertEqual(painter.active.painted, [2, 4, 6, 7, 8])


class TakingOver(unittest.TestCase):
    def test_no_pending_state(self):
        painter = painter_of(SAMPLE)
        paint_all(painter)
        before = of_painter(painter)
        self.assertRaises(NotReady, painter.take)
        self.assertEqual(of_painter(painter), before)

    def test_seen_blocks_are_needed_and_no_others(self):
        painter = painter_of(SAMPLE)
        painter.receive(state_of(SAMPLE, 5, [3]))
        for _ in range(3):
            before = of_painter(painter)
            self.assertRaises(NotReady, painter.take)
            self.assertEqual(of_painter(painter), before)
            painter.paint()
        pending = of_state(painter.pending)
        self.assertEqual(painter.take(), 5)
        self.assertIsNone(painter.pending)
        self.assertEqual(of_state(painter.active), pending)
        self.assertRaises(NotReady, painter.take)

    def test_the_last_seen_block_is_needed_too(self):
        painter = painter_of(scroller(1, 30, block(2, 10), block(3, 10), block(4, 10)))
        painter.receive(state_of(scroller(1, 30, block(2, 10), block(3, 10), block(4, 10)), 1))
        painter.paint()
        painter.paint()
        self.assertRaises(NotReady, painter.take)
        painter.paint()
        self.assertEqual(painter.take(), 1)

    def test_nothing_seen(self):
        painter = painter_of(SAMPLE)
        painter.receive(state_of(scroller(1, 0, block(2, 5)), 3))
        self.assertEqual(painter.take(), 3)
        self.assertEqual(painter.active.painted, [])

    def test_seen_blocks_that_were_painted_before(self):
        painter = painter_of(SAMPLE)
        for _ in range(3):
            painter.paint()
        painter.receive(state_of(SAMPLE, 1))
        self.assertEqual(painter.take(), 1)

    def test_moves_behind_the_commit_bring_unpainted_blocks(self):
        painter = painter_of(SAMPLE)
        painter.receive(state_of(SAMPLE, 1))
        for _ in range(3):
            painter.paint()
        painter.scroll(90, 20)
        self.assertRaises(NotReady, painter.take)
        self.assertEqual(painter.paint(), 8)
        self.assertEqual(painter.take(), 1)

    def test_moves_behind_the_commit_take_unpainted_blocks_away(self):
        painter = painter_of(scroller(1, 10, block(2, 10), block(3, 10)))
        painter.scroll(0, 10)
        painter.receive(state_of(scroller(1, 10, block(2, 10), block(3, 10)), 1, (), 1, s1=10))
        painter.paint()
        self.assertEqual(painter.pending.painted, [3])
        painter.scroll(0, -10)
        self.assertRaises(NotReady, painter.take)
        painter.scroll(0, 10)
        self.assertEqual(painter.take(), 1)

    def test_moves_and_waiting_scrolls_stay(self):
        painter = painter_of(SAMPLE, [3])
        painter.scroll(0, 3)
        painter.scroll(40, 5)
        painter.receive(state_of(SAMPLE, 1, (), 1, s1=3))
        paint_all(painter)
        painter.take()
        self.assertEqual(painter.moves, [(1, 3)])
        self.assertEqual(painter.waiting, [((3, 1), 5)])
        self.assertEqual(painter.scroll(40, 6), ((3, 6),))


class Frames(unittest.TestCase):
    def test_nothing_painted(self):
        painter = painter_of(SAMPLE)
        self.assertEqual(
            painter.frame(),
            (0, 0, [(2, 0, 0, 30, False), (4, 30, 30, 80, False), (6, 80, 80, 100, False)]),
        )

    def test_painted_and_unpainted_blocks(self):
        painter = painter_of(SAMPLE)
        painter.paint()
        painter.paint()
        painter.scroll(0, 20)
        self.assertEqual(
            painter.frame(),
            (0, 1, [(2, -20, 0, 10, True), (4, 10, 10, 60, True), (6, 60, 60, 85, False), (8, 85, 85, 90, False)]),
        )
        painter.paint()
        self.assertEqual([row[4] for row in painter.frame()[2]], [True, True, True, False])

    def test_the_number_and_the_count_of_all_moves(self):
        painter = painter_of(SAMPLE)
        painter.scroll(0, 5)
        painter.scroll(90, 21)
        painter.receive(state_of(SAMPLE, 8, (), 2, s1=5, s5=20))
        self.assertEqual(painter.frame()[:2], (0, 3))
        paint_all(painter)
        self.assertEqual(painter.frame()[:2], (0, 3))
        painter.take()
        self.assertEqual(painter.frame()[:2], (8, 3))

    def test_the_pending_state_is_not_drawn(self):
        painter = painter_of(scroller(1, 10, block(2, 5)))
        before = painter.frame()
        painter.receive(state_of(scroller(1, 10, block(2, 5), block(3, 5)), 1))
        paint_all(painter)
        self.assertEqual(painter.frame(), before)
        painter.take()
        self.assertEqual(painter.frame(), (1, 0, [(2, 0, 0, 5, True), (3, 5, 5, 10, True)]))

    def test_a_frame_of_nothing(self):
        self.assertEqual(painter_of(scroller(1, 0, block(2, 5))).frame(), (0, 0, []))

    def test_a_frame_changes_nothing_and_is_new(self):
        painter = painter_of(SAMPLE, [3])
        painter.scroll(0, 5)
        painter.scroll(40, 5)
        painter.paint()
        before = of_painter(painter)
        frame = painter.frame()
        kept = list(frame[2])
        self.assertIsInstance(frame, tuple)
        frame[2].clear()
        self.assertEqual(painter.frame()[2], kept)
        self.assertEqual(of_painter(painter), before)


if __name__ == "__main__":
    unittest.main()
