"""Points 23 and 24: quiet systems, and the ways to them."""

import unittest

from samples import block, scroller
from walks import commit_and_take, of_main, of_painter, of_system, paint_all, walked

from asyncframes.errors import Busy, FrameError, NotBegun, NotReady
from asyncframes.quiet import inner, is_quiet, to_quiet
from asyncframes.systems import System

STEPS = ("begin", "commit", "paint", "take")
EMPTY = scroller(1, 10)
ONE = scroller(1, 10, block(2, 5))
STAIRS = scroller(1, 10, block(2, 10), block(3, 10), block(4, 10), block(5, 10))


def quiet_system(document=STAIRS):
    """A system with all blocks painted, in the state 0."""
    system = System(document)
    paint_all(system)
    return system


def held_system(number, document=STAIRS):
    """A quiet system that holds a number, in the state 1."""
    system = quiet_system(document)
    system.hold(number)
    commit_and_take(system)
    return system


class Quiet(unittest.TestCase):
    def test_at_the_start(self):
        self.assertIs(is_quiet(System(EMPTY)), True)
        self.assertIs(is_quiet(System(scroller(1, 0, block(2, 5), block(3, 5)))), True)
        self.assertIs(is_quiet(System(scroller(1, 10, block(2, 0), scroller(4, 0, block(3, 5))))), True)
        self.assertIs(is_quiet(System(ONE)), False)

    def test_only_seen_blocks_need_to_be_painted(self):
        system = System(scroller(1, 20, block(2, 10), block(3, 10), block(4, 10)))
        self.assertIs(is_quiet(system), False)
        system.paint()
        self.assertIs(is_quiet(system), False)
        system.paint()
        self.assertIs(is_quiet(system), True)
        system.paint()
        self.assertIs(is_quiet(system), True)

    def test_the_moves_are_not_told(self):
        system = quiet_system()
        system.scroll(0, 5)
        self.assertIs(is_quiet(system), False)
        # The state is as before, but the moves that led back are not told.
        system.scroll(0, -5)
        self.assertIs(is_quiet(system), False)

    def test_moves_were_told_since_the_last_commit(self):
        system = quiet_system()
        system.scroll(0, 5)
        system.begin()
        self.assertIs(is_quiet(system), False)
        system.begin()
        self.assertIs(is_quiet(system), False)
        system.commit()
        self.assertIs(is_quiet(system), False)
        system.take()
        self.assertIs(is_quiet(system), True)

    def test_moves_that_are_told_before_the_commit_and_others_after_it(self):
        system = quiet_system()
        system.scroll(0, 5)
        system.begin()
        system.commit()
        system.scroll(0, 5)
        system.take()
        self.assertIs(is_quiet(system), False)
        system.begin()
        self.assertIs(is_quiet(system), False)
        system.commit()
        system.take()
        self.assertIs(is_quiet(system), True)

    def test_a_pending_state(self):
        system = quiet_system()
        system.begin()
        self.assertIs(is_quiet(system), True)
        system.commit()
        self.assertIs(is_quiet(system), False)
        system.begin()
        self.assertIs(is_quiet(system), False)
        system.take()
        self.assertIs(is_quiet(system), True)

    def test_a_waiting_scroll(self):
        for answer, amount in ((False, 5), (True, -5)):
            system = held_system(1)
            self.assertIs(is_quiet(system), True)
            self.assertIsNone(system.scroll(0, amount))
            self.assertIs(is_quiet(system), False)
            self.assertEqual(system.answer(answer), ())
            self.assertIs(is_quiet(system), True)

    def test_a_waiting_scroll_that_moves(self):
        system = held_system(1)
        system.scroll(0, 5)
        self.assertEqual(system.answer(True), ((1, 5),))
        self.assertIs(is_quiet(system), False)

    def test_something_was_done_since_the_last_commit(self):
        deeds = (
            ("edit", ("resize", 2, 11)),
            ("edit", ("resize", 2, 10)),
            ("edit", ("insert", 1, 4, block(9, 0))),
            ("set_offset", 1, 3),
            ("set_offset", 1, 0),
            ("hold", 2),
            ("hold", 7),
            ("release", 7),
            ("release", 2),
        )
        for system in (quiet_system(), held_system(7)):
            for word, *arguments in deeds:
                ahead = system.fork()
                self.assertIs(is_quiet(ahead), True)
                getattr(ahead, word)(*arguments)
                self.assertIs(is_quiet(ahead), False, (word, arguments))
                ahead.begin()
                self.assertIs(is_quiet(ahead), False, (word, arguments))
                ahead.commit()
                paint_all(ahead)
                self.assertIs(is_quiet(ahead), False, (word, arguments))
                ahead.take()
                self.assertIs(is_quiet(ahead), True, (word, arguments))

    def test_something_was_done_behind_the_commit(self):
        for word, *arguments in (("hold", 7), ("release", 7), ("set_offset", 1, 0), ("edit", ("resize", 2, 10))):
            system = quiet_system()
            system.begin()
            system.commit()
            getattr(system, word)(*arguments)
            system.take()
            self.assertIs(is_quiet(system), False, word)

    def test_a_blocked_commit_is_no_commit(self):
        system = quiet_system()
        system.begin()
        system.commit()
        system.hold(3)
        self.assertRaises(NotBegun, system.commit)
        system.begin()
        self.assertRaises(Busy, system.commit)
        system.take()
        self.assertIs(is_quiet(system), False)

    def test_errors_do_nothing(self):
        system = quiet_system()
        for step, *arguments in (
            ("edit", ("remove", 1)), ("edit", ("remove", 9)), ("set_offset", 9, 1), ("set_offset", 2, 1),
            ("commit",), ("take",), ("answer", True),
        ):
            self.assertRaises(FrameError, getattr(system, step), *arguments)
            self.assertIs(is_quiet(system), True, step)

    def test_what_the_main_thread_has_no_part_in(self):
        system = quiet_system()
        system.scroll(0, 0)
        system.scroll(0, -5)
        system.draw()
        system.paint()
        system.begin()
        system.fork().hold(1)
        self.assertIs(is_quiet(system), True)

    def test_a_block_that_is_not_painted(self):
        system = System(scroller(1, 10, block(2, 5), block(3, 5)))
        system.paint()
        self.assertIs(is_quiet(system), False)
        system.begin()
        self.assertIs(is_quiet(system), False)
        system.paint()
        self.assertIs(is_quiet(system), True)

    def test_the_active_view_counts(self):
        system = System(STAIRS)
        system.paint()
        self.assertIs(is_quiet(system), True)
        system.scroll(0, 5)
        self.assertIs(is_quiet(system), False)


class Inner(unittest.TestCase):
    def test_what_is_returned(self):
        system = System(STAIRS)
        system.scroll(0, 5)
        system.scroll(0, 5)
        self.assertEqual(inner(system, "begin"), 2)
        self.assertEqual(system.main.offsets, {1: 10})
        self.assertEqual(inner(system, "begin"), 0)
        self.assertEqual(inner(system, "commit"), 1)
        self.assertEqual([inner(system, "paint") for _ in range(5)], [3, 2, 4, 5, None])
        self.assertEqual(inner(system, "take"), 1)
        self.assertEqual(system.painter.active.painted, [2, 3, 4, 5])

    def test_what_is_raised(self):
        system = System(ONE)
        for error, step in ((NotBegun, "commit"), (NotReady, "take")):
            before = of_system(system)
            self.assertRaises(error, inner, system, step)
            self.assertEqual(of_system(system), before)
        inner(system, "begin")
        inner(system, "commit")
        self.assertRaises(NotReady, inner, system, "take")
        inner(system, "begin")
        before = of_system(system)
        self.assertRaises(Busy, inner, system, "commit")
        self.assertEqual(of_system(system), before)


class ToQuiet(unittest.TestCase):
    def test_a_quiet_system(self):
        for system in (System(EMPTY), quiet_system(), held_system(3)):
            self.assertEqual(to_quiet(system), [])

    def test_a_waiting_scroll(self):
        system = held_system(1)
        system.scroll(0, 5)
        self.assertIsNone(to_quiet(system))
        system.scroll(0, 5)
        system.answer(False)
        self.assertIsNone(to_quiet(system))
        system.answer(False)
        self.assertEqual(to_quiet(system), [])

    def test_painting_alone(self):
        self.assertEqual(to_quiet(System(ONE)), ["paint"])
        self.assertEqual(to_quiet(System(scroller(1, 21, *STAIRS[3]))), ["paint", "paint", "paint"])

    def test_a_commit_is_needed(self):
        system = quiet_system()
        system.scroll(0, 5)
        self.assertEqual(to_quiet(system), ["begin", "commit", "take"])
        system.begin()
        self.assertEqual(to_quiet(system), ["commit", "take"])
        system.scroll(0, 5)
        self.assertEqual(to_quiet(system), ["begin", "commit", "take"])
        system.begin()
        system.commit()
        self.assertEqual(to_quiet(system), ["take"])

    def test_something_was_done(self):
        system = quiet_system()
        system.release(7)
        self.assertEqual(to_quiet(system), ["begin", "commit", "take"])
        system.begin()
        self.assertEqual(to_quiet(system), ["commit", "take"])
        other = quiet_system()
        other.begin()
        other.edit(("resize", 2, 9))
        self.assertEqual(to_quiet(other), ["commit", "paint", "take"])

    def test_a_commit_comes_before_painting(self):
        system = System(STAIRS)
        system.scroll(0, 5)
        self.assertEqual(to_quiet(system), ["begin", "commit", "paint", "paint", "take"])

    def test_a_pending_state(self):
        system = System(STAIRS)
        system.begin()
        system.commit()
        self.assertEqual(to_quiet(system), ["paint", "take"])
        system.begin()
        self.assertEqual(to_quiet(system), ["paint", "take"])

    def test_a_pending_state_and_a_commit(self):
        system = System(STAIRS)
        system.begin()
        system.commit()
        system.hold(9)
        self.assertEqual(to_quiet(system), ["begin", "paint", "take", "commit", "take"])
        system.begin()
        self.assertEqual(to_quiet(system), ["paint", "take", "commit", "take"])
        system.paint()
        self.assertEqual(to_quiet(system), ["take", "commit", "take"])

    def pending(self, *steps):
        """What leads to quiet with a pending state and these steps behind it."""
        system = System(STAIRS)
        system.begin()
        system.commit()
        system.begin()
        for word, *arguments in steps:
            getattr(system, word)(*arguments)
        return [step[0] for step in to_quiet(system)]

    def test_blocks_of_the_next_state_are_painted_early(self):
        # In the pending state the order is 2, 3, 4, 5.
        self.assertEqual(self.pending(("set_offset", 1, 10)), list("pptct"))
        self.assertEqual(self.pending(("set_offset", 1, 15)), list("ppptct"))
        self.assertEqual(self.pending(("set_offset", 1, 5)), list("pptct"))
        # Block 3 is not seen then, so that it would be painted in vain.
        self.assertEqual(self.pending(("set_offset", 1, 20)), list("ptcpt"))
        self.assertEqual(self.pending(("edit", ("remove", 2)),), list("pptct"))
        self.assertEqual(self.pending(("set_offset", 1, 30), ("edit", ("remove", 3))), list("ptcpt"))

    def test_all_blocks_of_the_pending_state_are_painted(self):
        steps = [("edit", ("insert", 1, 0, block(8, 10)))]
        self.assertEqual(self.pending(*steps, ("paint",), ("paint",), ("paint",), ("paint",)), list("tcpt"))

    def test_blocks_of_another_height_are_not_painted_early(self):
        self.assertEqual(self.pending(("edit", ("resize", 3, 9)), ("set_offset", 1, 9)), list("ptcpt"))
        self.assertEqual(self.pending(("edit", ("resize", 3, 9)), ("set_offset", 1, 15)), list("ptcppt"))
        self.assertEqual(self.pending(("edit", ("resize", 4, 9)), ("set_offset", 1, 15)), list("pptcpt"))

    def test_moves_count_for_the_next_state(self):
        system = System(STAIRS)
        system.begin()
        system.commit()
        system.hold(9)
        self.assertEqual(system.scroll(0, 10), ((1, 10),))
        # The pending state needs block 3, and so does the next one.
        self.assertEqual([step[0] for step in to_quiet(system)], list("bptct"))
        system.set_offset(1, 7)
        self.assertEqual([step[0] for step in to_quiet(system)], list("bptcpt"))

    def test_the_system_stays(self):
        for seed in range(40):
            system, _ = walked(seed, 30)
            before = of_system(system)
            steps = to_quiet(system)
            is_quiet(system)
            self.assertEqual(of_system(system), before)
            self.assertEqual(to_quiet(system), steps)


def is_begun(steps):
    """Whether there is a beginning behind the last commit among the steps."""
    last = max([at for at, step in enumerate(steps) if step == "commit"], default=-1)
    return "begin" in steps[last + 1:]


def shortest(system):
    """The first of the shortest lists, found among all of them.

    Of two lists that lead to the same, the later one is given up.
    """
    layer = [([], system.fork())]
    seen = []
    while True:
        for steps, ahead in layer:
            if is_quiet(ahead):
                return steps
        later = []
        for steps, before in layer:
            for step in STEPS:
                ahead = before.fork()
                try:
                    inner(ahead, step)
                except FrameError:
                    continue
                longer = steps + [step]
                place = (of_main(ahead.main), of_painter(ahead.painter), is_begun(longer))
                if place not in seen:
                    seen.append(place)
                    later.append((longer, ahead))
        layer = later


def lists_to_quiet(system, length):
    """All lists of so many inner steps that raise no error and lead to quiet."""
    if length == 0:
        return [[]] if is_quiet(system) else []
    found = []
    for step in STEPS:
        ahead = system.fork()
        try:
            inner(ahead, step)
        except FrameError:
            continue
        found.extend([step] + steps for steps in lists_to_quiet(ahead, length - 1))
    return found


def answered(seed, many):
    """A system behind a walk, with no waiting scroll."""
    system, _ = walked(seed, many)
    while system.painter.waiting:
        system.answer(seed % 2 == 0)
    return system


class AllLists(unittest.TestCase):
    def test_the_list_is_the_first_of_the_shortest_ones(self):
        lengths = []
        for seed in range(500):
            system = answered(seed, 5 + seed % 40)
            steps = to_quiet(system)
            self.assertEqual(steps, shortest(system), seed)
            lengths.append(len(steps))
        for length in range(10):
            self.assertIn(length, lengths)

    def test_all_lists_that_are_no_longer(self):
        lengths = []
        for seed in range(150):
            system = answered(seed + 500, 5 + seed % 40)
            steps = to_quiet(system)
            if len(steps) <= 5:
                lengths.append(len(steps))
                for length in range(len(steps)):
                    self.assertEqual(lists_to_quiet(system, length), [], seed)
                self.assertEqual(min(lists_to_quiet(system, len(steps))), steps, seed)
        for length in range(6):
            self.assertIn(length, lengths)

    def test_the_list_leads_to_a_quiet_system(self):
        for seed in range(300):
            system = answered(seed + 900, 10 + seed % 50)
            for step in to_quiet(system):
                self.assertFalse(is_quiet(system))
                inner(system, step)
            self.assertTrue(is_quiet(system))
            active = system.painter.active
            self.assertEqual(active.document, system.main.document)
            self.assertEqual(active.view(system.painter.moves), system.main.offsets)
            self.assertTrue(all(row[4] for row in system.draw()[2]))

    def test_quiet_as_the_document_says_it(self):
        found = []
        for seed in range(300):
            system, log = walked(seed + 1300, 5 + seed % 30)
            told = sum(outcome[1] for step, outcome in log if step == ("begin",))
            done = False
            for step, outcome in log:
                if step == ("commit",) and outcome[0] == "returned":
                    done = False
                elif step == ("begin",):
                    done = done or outcome[1] > 0
                elif step[0] in ("edit", "set_offset", "hold", "release") and outcome[0] == "returned":
                    done = True
            quiet = (
                told == len(system.painter.moves)
                and system.painter.pending is None
                and system.painter.waiting == []
                and not done
                and all(row[4] for row in system.fork().draw()[2])
            )
            self.assertEqual(is_quiet(system), quiet, seed)
            found.append(quiet)
        self.assertGreater(found.count(True), 5)


if __name__ == "__main__":
    unittest.main()
