"""Point 22: the histories of frames, and what the plain run makes of them."""

import unittest

from samples import SAMPLE, block, scroller
from walks import Walk, commit_and_take, outcome, paint_all

from asyncframes.pictures import picture
from asyncframes.plain import plain_run
from asyncframes.systems import System

EMPTY = scroller(1, 10)
STAIRS = scroller(1, 100, block(2, 80), block(3, 80), block(4, 80))


def history_of_now(system):
    """The history of a frame that is drawn now; the system stays as it is."""
    ahead = system.fork()
    ahead.draw()
    return ahead.histories()[-1]


class Histories(unittest.TestCase):
    def test_no_deed(self):
        system = System(SAMPLE)
        system.paint()
        system.draw()
        self.assertEqual(system.histories(), [[]])

    def test_deeds_that_are_not_committed(self):
        system = System(STAIRS)
        system.set_offset(1, 5)
        system.edit(("remove", 2))
        system.begin()
        self.assertEqual(history_of_now(system), [])
        system.commit()
        self.assertEqual(history_of_now(system), [])
        system.paint()
        system.paint()
        system.take()
        self.assertEqual(history_of_now(system), [("set", 1, 5), ("edit", ("remove", 2))])

    def test_edits_and_sets_between_beginnings(self):
        system = System(STAIRS)
        system.set_offset(1, 500)
        system.scroll(0, 30)
        system.begin()
        system.edit(("resize", 2, 50))
        system.scroll(0, 40)
        system.set_offset(1, 3)
        system.begin()
        system.edit(("insert", 1, 0, block(7, 9)))
        system.commit()
        system.set_offset(1, 0)
        paint_all(system)
        system.take()
        self.assertEqual(history_of_now(system), [
            ("set", 1, 500),
            ("moves", ((1, 30),)),
            ("edit", ("resize", 2, 50)),
            ("set", 1, 3),
            ("moves", ((1, 40),)),
            ("edit", ("insert", 1, 0, block(7, 9))),
        ])

    def test_a_beginning_that_told_nothing(self):
        system = System(EMPTY)
        system.begin()
        system.set_offset(1, 0)
        commit_and_take(system)
        self.assertEqual(history_of_now(system), [("set", 1, 0)])

    def test_several_moves_at_one_beginning(self):
        system = System(SAMPLE)
        system.scroll(90, 25)
        system.scroll(0, 5)
        commit_and_take(system)
        self.assertEqual(history_of_now(system), [("moves", ((5, 20), (3, 5), (1, 5)))])

    def test_moves_behind_the_included_ones(self):
        system = System(STAIRS)
        system.scroll(0, 1)
        self.assertEqual(history_of_now(system), [("moves", ((1, 1),))])
        system.scroll(0, 2)
        self.assertEqual(history_of_now(system), [("moves", ((1, 1), (1, 2)))])
        system.begin()
        # They are told, but the active state has not included them.
        self.assertEqual(history_of_now(system), [("moves", ((1, 1), (1, 2)))])
        system.scroll(0, 4)
        system.commit()
        self.assertEqual(history_of_now(system), [("moves", ((1, 1), (1, 2), (1, 4)))])
        paint_all(system)
        system.take()
        self.assertEqual(history_of_now(system), [("moves", ((1, 1), (1, 2))), ("moves", ((1, 4),))])
        system.begin()
        self.assertEqual(history_of_now(system), [("moves", ((1, 1), (1, 2))), ("moves", ((1, 4),))])

    def test_moves_of_scrollers_that_are_gone(self):
        system = System(SAMPLE)
        system.begin()
        system.edit(("remove", 3))
        system.commit()
        system.scroll(90, 25)
        paint_all(system)
        system.take()
        self.assertEqual(history_of_now(system), [("edit", ("remove", 3)), ("moves", ((5, 20), (3, 5)))])

    def test_errors_are_no_deeds(self):
        system = System(EMPTY)
        for step in (("set_offset", 2, 3), ("edit", ("remove", 1)), ("edit", ("remove", 2)), ("commit",)):
            self.assertEqual(outcome(system, step)[0], "raised")
        commit_and_take(system)
        self.assertEqual(history_of_now(system), [])

    def test_holding_and_painting_are_no_deeds(self):
        system = System(scroller(1, 10, block(2, 5)))
        system.hold(1)
        system.release(1)
        system.hold(2)
        commit_and_take(system)
        self.assertIsNone(system.scroll(0, 3))
        self.assertEqual(history_of_now(system), [])

    def test_one_history_for_each_frame(self):
        system = System(STAIRS)
        system.draw()
        system.scroll(0, 7)
        system.draw()
        commit_and_take(system)
        system.draw()
        system.scroll(0, 8)
        system.draw()
        self.assertEqual(system.histories(), [
            [],
            [("moves", ((1, 7),))],
            [("moves", ((1, 7),))],
            [("moves", ((1, 7),)), ("moves", ((1, 8),))],
        ])

    def test_moves_are_tuples_of_tuples(self):
        system = System(SAMPLE)
        system.scroll(90, 25)
        system.begin()
        system.scroll(0, 5)
        system.draw()
        for history in system.histories() + [system.main.deeds]:
            for deed in history:
                self.assertIsInstance(deed, tuple)
                self.assertIsInstance(deed[1], tuple)


class PlainRuns(unittest.TestCase):
    def test_systems_behind_many_steps(self):
        drawn = 0
        newest = 0
        for seed in range(300):
            walk = Walk(seed)
            system = walk.system
            expected = []
            for _ in range(20 + seed % 60):
                walk.go()
                if len(expected) < len(system.frames()):
                    active = system.painter.active
                    expected.append((active.document, active.view(system.painter.moves)))
            frames = system.frames()
            outcomes = [plain_run(walk.first, history) for history in system.histories()]
            self.assertEqual(outcomes, expected, seed)
            for frame, told in zip(frames, outcomes):
                self.assertEqual([row[:4] for row in frame[2]], picture(*told), seed)
            drawn += len(frames)
            newest = max([newest] + [frame[0] for frame in frames])
        self.assertGreater(drawn, 500)
        self.assertGreaterEqual(newest, 4)

    def test_a_frame_behind_each_step(self):
        for seed in range(1000, 1040):
            walk = Walk(seed)
            for _ in range(40):
                walk.go()
                number, moves, shown = walk.system.draw()
                painter = walk.system.painter
                document, offsets = plain_run(walk.first, walk.system.histories()[-1])
                self.assertEqual((number, moves), (painter.active.number, len(painter.moves)))
                self.assertEqual((document, offsets), (painter.active.document, painter.active.view(painter.moves)))
                self.assertEqual(
                    shown, [row + (row[0] in painter.active.painted,) for row in picture(document, offsets)],
                )

    def test_the_main_thread_is_where_its_deeds_lead(self):
        for seed in range(2000, 2060):
            walk = Walk(seed)
            for _ in range(50):
                walk.go()
            main = walk.system.main
            self.assertEqual(plain_run(walk.first, main.deeds), (main.document, main.offsets))


if __name__ == "__main__":
    unittest.main()
