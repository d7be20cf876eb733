"""Point 2 for the two threads: arguments, answers and errors."""

import copy
import unittest

from samples import SAMPLE, block, scroller
from walks import Walk, commit_and_take, of_main, of_painter, of_state, of_system, outcome, paint_all, walked

from asyncframes.errors import Busy, FrameError, NoneWaiting, NotBegun, NotReady
from asyncframes.layout import fitted
from asyncframes.main_thread import MainThread
from asyncframes.painter import Painter, State
from asyncframes.quiet import inner, is_quiet, to_quiet
from asyncframes.systems import System

BASE = {1: 20, 3: 10, 5: 0, 10: 0}
STAIRS = scroller(1, 100, block(2, 80), block(3, 80), block(4, 80))


def drawn_system():
    """A system with two frames, a pending state and a waiting scroll."""
    system = System(STAIRS)
    system.hold(3)
    system.scroll(0, 30)
    commit_and_take(system)
    system.draw()
    system.scroll(90, 4)
    system.scroll(0, 5)
    system.begin()
    system.edit(("resize", 4, 81))
    system.commit()
    system.draw()
    return system


class Arguments(unittest.TestCase):
    def test_documents(self):
        document = copy.deepcopy(SAMPLE)
        system = System(document)
        system.edit(("remove", 2))
        system.scroll(50, 5)
        system.draw()
        MainThread(document).do(("edit", ("remove", 3)))
        self.assertEqual(document, SAMPLE)

    def test_moves_that_are_told(self):
        moves = [(1, 30), (12, 3), (3, -4)]
        main = MainThread(SAMPLE)
        main.tell(moves)
        main.tell(moves)
        main.do(("set", 1, 4))
        self.assertEqual(moves, [(1, 30), (12, 3), (3, -4)])

    def test_what_a_state_is_made_of(self):
        base = dict(BASE)
        held = [4, 3, 77]
        moves = [(1, 5), (3, -2)]
        state = State(2, SAMPLE, base, held, 1)
        painter = Painter(state)
        painter.receive(State(3, SAMPLE, base, held, 1))
        painter.scroll(0, 5)
        painter.scroll(90, 5)
        paint_all(painter)
        painter.take()
        state.view(moves)
        self.assertEqual(list(base.items()), list(BASE.items()))
        self.assertEqual(held, [4, 3, 77])
        self.assertEqual(moves, [(1, 5), (3, -2)])

    def test_a_state_that_is_received(self):
        painter = Painter(State(0, SAMPLE, BASE, [], 0))
        painter.paint()
        painter.paint()
        state = State(1, SAMPLE, BASE, [3], 0)
        before = of_state(state)
        painter.receive(state)
        self.assertEqual(of_state(state), before)
        self.assertEqual(painter.pending.painted, painter.active.painted)
        paint_all(painter)
        painter.take()
        self.assertEqual(of_state(state), before)

    def test_a_state_that_is_refused(self):
        painter = Painter(State(0, SAMPLE, BASE, [], 0))
        painter.paint()
        painter.receive(State(1, SAMPLE, BASE, [], 0))
        state = State(2, SAMPLE, BASE, [3], 0)
        before = of_state(state)
        self.assertRaises(Busy, painter.receive, state)
        self.assertEqual(of_state(state), before)

    def test_systems_that_are_looked_at(self):
        for seed in range(60):
            system, _ = walked(seed, 40)
            before = of_system(system)
            is_quiet(system)
            to_quiet(system)
            system.fork()
            system.frames()
            system.histories()
            system.painter.frame()
            system.painter.active.view(system.painter.moves)
            self.assertEqual(of_system(system), before)


class Answers(unittest.TestCase):
    def test_frames(self):
        system = drawn_system()
        kept = copy.deepcopy(system.frames())
        frames = system.frames()
        self.assertEqual(len(frames), 2)
        for frame in frames:
            frame[2].append("more")
            frame[2][0] = "other"
        frames.reverse()
        frames.append("more")
        self.assertEqual(system.frames(), kept)

    def test_a_frame_that_was_drawn(self):
        system = drawn_system()
        frame = system.draw()
        kept = copy.deepcopy(frame)
        frame[2].clear()
        self.assertEqual(system.frames()[-1], kept)
        self.assertEqual(system.draw(), kept)

    def test_histories(self):
        system = drawn_system()
        kept = copy.deepcopy(system.histories())
        self.assertEqual(kept, [[("moves", ((1, 30),))], [("moves", ((1, 30),)), ("moves", ((1, 5),))]])
        histories = system.histories()
        for history in histories:
            history.append(("set", 1, 4))
            history[0] = ("set", 1, 5)
        histories.clear()
        self.assertEqual(system.histories(), kept)
        self.assertEqual(system.main.deeds, [("moves", ((1, 30),)), ("moves", ((1, 5),)), ("edit", ("resize", 4, 81))])
        system.draw()
        self.assertEqual(system.histories(), kept + kept[1:])

    def test_frames_and_histories_of_a_fork(self):
        system = drawn_system()
        other = system.fork()
        frames = copy.deepcopy(system.frames())
        histories = copy.deepcopy(system.histories())
        for frame in other.frames():
            frame[2].clear()
        for history in other.histories():
            history.clear()
        self.assertEqual(system.frames(), frames)
        self.assertEqual(system.histories(), histories)
        self.assertEqual(other.frames(), frames)
        self.assertEqual(other.histories(), histories)

    def test_lists_are_new_each_time(self):
        system = System(STAIRS)
        self.assertIsNot(system.frames(), system.frames())
        self.assertIsNot(system.histories(), system.histories())
        self.assertIsNot(to_quiet(system), to_quiet(system))
        system.draw()
        self.assertIsNot(system.frames()[0][2], system.frames()[0][2])
        self.assertIsNot(system.histories()[0], system.histories()[0])

    def test_views(self):
        system = drawn_system()
        for state in (system.painter.active, system.painter.pending):
            for moves in ([], system.painter.moves):
                view = state.view(moves)
                kept = dict(view)
                view[1] = 99
                view[50] = 1
                self.assertEqual(state.view(moves), kept)
        self.assertEqual(of_system(system), of_system(drawn_system()))

    def test_what_a_state_was_made_of_may_change(self):
        base = fitted(SAMPLE, BASE)
        held = [3]
        state = State(1, SAMPLE, base, held, 0)
        before = of_state(state)
        base[1] = 7
        base[50] = 1
        held.append(4)
        self.assertEqual(of_state(state), before)
        self.assertEqual(state.view([]), BASE)

    def test_frames_of_a_painter(self):
        system = drawn_system()
        kept = copy.deepcopy(system.painter.frame())
        system.painter.frame()[2].clear()
        self.assertEqual(system.painter.frame(), kept)

    def test_lists_of_inner_steps(self):
        system = System(STAIRS)
        steps = to_quiet(system)
        self.assertEqual(steps, ["paint", "paint"])
        steps.append("begin")
        self.assertEqual(to_quiet(system), ["paint", "paint"])

    def test_moves_are_tuples(self):
        system = drawn_system()
        self.assertEqual(system.answer(True), ((1, 4),))
        self.assertIsInstance(system.scroll(0, 3), tuple)
        self.assertIsInstance(system.scroll(0, 0), tuple)
        self.assertEqual(system.painter.moves, [(1, 30), (1, 5), (1, 4), (1, 3)])


class Errors(unittest.TestCase):
    def test_each_error_of_a_system_changes_nothing(self):
        seen = []
        for seed in range(80):
            walk = Walk(seed)
            for _ in range(50):
                before = of_system(walk.system)
                step, (kind, answer) = walk.go()
                if kind == "raised":
                    self.assertEqual(of_system(walk.system), before)
                    seen.append((step[0], answer))
        for pair in (
            ("edit", "NoSuchBox"), ("edit", "NotAScroller"), ("edit", "RefusedEdit"), ("set_offset", "NoSuchBox"),
            ("set_offset", "NotAScroller"), ("commit", "NotBegun"), ("commit", "Busy"), ("answer", "NoneWaiting"),
            ("take", "NotReady"),
        ):
            self.assertIn(pair, seen)

    def test_systems_go_on_as_if_there_had_been_no_error(self):
        for seed in range(80):
            system, log = walked(seed, 60)
            other = self.without_errors(seed, log)
            self.assertEqual(of_system(other), of_system(system))
            self.assertEqual(is_quiet(other), is_quiet(system))
            self.assertEqual(to_quiet(other), to_quiet(system))

    def without_errors(self, seed, log):
        """The system of a walk, with the steps alone that raised nothing."""
        system = Walk(seed).system
        for step, told in log:
            if told[0] == "returned":
                self.assertEqual(outcome(system, step), told)
        return system

    def test_errors_of_a_main_thread(self):
        main = MainThread(SAMPLE)
        main.hold(4)
        main.tell([(1, 3)])
        before = of_main(main)
        for deed in (("set", 12, 3), ("set", 2, 3), ("edit", ("remove", 1)), ("edit", ("insert", 1, -1, block(20)))):
            self.assertRaises(FrameError, main.do, deed)
            self.assertEqual(of_main(main), before)

    def test_errors_of_a_painter(self):
        painter = Painter(State(0, SAMPLE, BASE, [3], 0))
        painter.scroll(0, 4)
        before = of_painter(painter)
        self.assertRaises(NoneWaiting, painter.answer, True)
        self.assertRaises(NotReady, painter.take)
        self.assertEqual(of_painter(painter), before)
        painter.receive(State(1, STAIRS, {1: 0}, [], 0))
        before = of_painter(painter)
        self.assertRaises(Busy, painter.receive, State(2, SAMPLE, BASE, [], 0))
        self.assertRaises(NotReady, painter.take)
        self.assertEqual(of_painter(painter), before)

    def test_errors_of_inner_steps(self):
        system = System(STAIRS)
        for error, step in ((NotBegun, "commit"), (NotReady, "take")):
            before = of_system(system)
            self.assertRaises(error, inner, system, step)
            self.assertEqual(of_system(system), before)
            self.assertEqual(to_quiet(system), ["paint", "paint"])


if __name__ == "__main__":
    unittest.main()
