"""Systems that are forked go on alike, and by themselves."""

import unittest

from samples import SAMPLE, block, scroller
from walks import Walk, commit_and_take, of_system, outcome, walked

from asyncframes.errors import Busy, NoneWaiting, NotBegun, NotReady
from asyncframes.quiet import is_quiet, to_quiet
from asyncframes.systems import System

STAIRS = scroller(1, 100, block(2, 80), block(3, 80), block(4, 80))


class Forks(unittest.TestCase):
    def test_a_new_system(self):
        system = System(SAMPLE)
        other = system.fork()
        self.assertIsInstance(other, System)
        self.assertIsNot(other, system)
        self.assertIsNot(other.main, system.main)
        self.assertIsNot(other.painter, system.painter)
        self.assertEqual(of_system(other), of_system(system))

    def test_no_list_and_no_dictionary_is_shared(self):
        system = System(SAMPLE)
        system.hold(1)
        system.begin()
        system.commit()
        other = system.fork()
        pairs = [
            (system.main, other.main), (system.painter, other.painter),
            (system.painter.active, other.painter.active), (system.painter.pending, other.painter.pending),
        ]
        for one, copy in pairs:
            self.assertIsNot(one, copy)
            for name, value in vars(one).items():
                if isinstance(value, (list, dict)):
                    self.assertIsNot(vars(copy)[name], value, name)

    def test_the_frames_drawn_so_far(self):
        system = System(STAIRS)
        system.draw()
        system.scroll(0, 30)
        system.draw()
        other = system.fork()
        self.assertEqual(other.frames(), system.frames())
        self.assertEqual(other.histories(), [[], [("moves", ((1, 30),))]])
        other.scroll(0, 1)
        other.draw()
        self.assertEqual(len(other.frames()), 3)
        self.assertEqual(len(system.frames()), 2)
        system.paint()
        system.draw()
        self.assertEqual(other.frames()[2], (0, 2, [(2, -31, 0, 49, False), (3, 49, 49, 100, False)]))
        self.assertEqual(system.frames()[2], (0, 1, [(2, -30, 0, 50, True), (3, 50, 50, 100, False)]))
        self.assertEqual(other.histories()[2], [("moves", ((1, 30), (1, 1)))])
        self.assertEqual(system.histories()[2], [("moves", ((1, 30),))])

    def test_in_the_middle_of_a_beginning(self):
        system = System(STAIRS)
        system.scroll(0, 30)
        system.begin()
        other = system.fork()
        self.assertEqual(other.commit(), 1)
        self.assertRaises(NotBegun, other.commit)
        self.assertIsNone(system.painter.pending)
        self.assertEqual(system.begin(), 0)
        self.assertEqual(system.commit(), 1)
        self.assertEqual(of_system(other), of_system(system))

    def test_before_a_beginning(self):
        system = System(STAIRS)
        system.scroll(0, 30)
        other = system.fork()
        system.begin()
        self.assertRaises(NotBegun, other.commit)
        self.assertEqual(other.begin(), 1)
        self.assertEqual(other.main.offsets, {1: 30})
        self.assertEqual(other.main.deeds, system.main.deeds)

    def test_with_a_pending_state(self):
        system = System(STAIRS)
        system.begin()
        system.commit()
        system.paint()
        other = system.fork()
        self.assertRaises(NotReady, other.take)
        self.assertEqual(other.paint(), 3)
        self.assertEqual(other.take(), 1)
        self.assertRaises(NotReady, system.take)
        self.assertEqual(system.painter.pending.painted, [2])
        self.assertEqual(system.painter.active.number, 0)
        system.begin()
        self.assertRaises(Busy, system.commit)
        other.begin()
        self.assertEqual(other.commit(), 2)

    def test_with_waiting_scrolls(self):
        system = System(STAIRS)
        system.hold(1)
        commit_and_take(system)
        system.scroll(0, 30)
        system.scroll(0, 40)
        other = system.fork()
        self.assertEqual(other.answer(True), ((1, 30),))
        self.assertEqual(other.painter.waiting, [((1,), 40)])
        self.assertEqual(system.painter.waiting, [((1,), 30), ((1,), 40)])
        self.assertEqual(system.answer(False), ())
        self.assertEqual(system.answer(True), ((1, 40),))
        self.assertRaises(NoneWaiting, system.answer, True)
        self.assertEqual(other.answer(True), ((1, 40),))
        self.assertEqual(other.painter.moves, [(1, 30), (1, 40)])
        self.assertEqual(system.painter.moves, [(1, 40)])

    def test_after_errors(self):
        system = System(STAIRS)
        system.begin()
        system.commit()
        system.begin()
        for step in (("commit",), ("take",), ("answer", True), ("edit", ("remove", 1)), ("set_offset", 2, 2)):
            self.assertEqual(outcome(system, step)[0], "raised")
        other = system.fork()
        for each in (other, system):
            self.assertEqual([each.paint(), each.paint()], [2, 3])
            self.assertEqual(each.take(), 1)
            self.assertEqual(each.commit(), 2)

    def test_quiet_is_the_same(self):
        system = System(scroller(1, 0))
        system.begin()
        system.commit()
        system.hold(3)
        system.take()
        other = system.fork()
        self.assertFalse(is_quiet(other))
        self.assertEqual(to_quiet(other), ["begin", "commit", "take"])
        commit_and_take(system)
        self.assertTrue(is_quiet(system))
        self.assertFalse(is_quiet(other))
        self.assertTrue(is_quiet(system.fork()))

    def test_a_fork_of_a_fork(self):
        system = System(STAIRS)
        first = system.fork()
        first.scroll(0, 7)
        second = first.fork()
        second.hold(3)
        first.paint()
        self.assertEqual(system.painter.moves, [])
        self.assertEqual(first.main.held, [])
        self.assertEqual(second.painter.moves, [(1, 7)])
        self.assertEqual(second.painter.active.painted, [])


class ManySteps(unittest.TestCase):
    def steps(self, seed, many):
        """Steps for a system of the seed's document, whatever comes of them."""
        walk = Walk(seed)
        return [walk.chosen() for _ in range(many)]

    def test_forks_go_on_alike(self):
        for seed in range(120):
            system, _ = walked(seed, 10 + seed % 50)
            other = system.fork()
            for step in self.steps(seed, 40):
                self.assertEqual(outcome(other, step), outcome(system, step), seed)
                self.assertEqual(is_quiet(other), is_quiet(system), seed)
            self.assertEqual(of_system(other), of_system(system))
            self.assertEqual(to_quiet(other), to_quiet(system))

    def test_forks_go_on_by_themselves(self):
        for seed in range(120):
            system, _ = walked(seed, 10 + seed % 50)
            other = system.fork()
            third = system.fork()
            before = of_system(system)
            for step in self.steps(seed, 40):
                outcome(other, step)
            self.assertEqual(of_system(system), before)
            behind = of_system(other)
            for step in self.steps(seed + 1, 40):
                outcome(system, step)
            self.assertEqual(of_system(other), behind)
            self.assertEqual(of_system(third), before)
            # What cannot be read has stayed, too: the third goes on as it was.
            for step in self.steps(seed, 40):
                outcome(third, step)
            self.assertEqual(of_system(third), behind)

    def test_a_fork_at_each_step(self):
        for seed in range(25):
            system, _ = walked(seed, 15)
            forks = []
            kept = []
            for step in self.steps(seed, 40):
                forks.append(system.fork())
                kept.append(of_system(system))
                outcome(system, step)
            self.assertEqual([of_system(fork) for fork in forks], kept)


if __name__ == "__main__":
    unittest.main()
