"""Point 15: states and their views."""

import unittest

from samples import SAMPLE, block, scroller

from asyncframes.painter import State

BASE = {1: 20, 3: 10, 5: 0, 10: 0}
MOVES = [(1, 5), (3, -4), (1, 100), (1, -3), (5, 6)]


class Fields(unittest.TestCase):
    def test_fields(self):
        state = State(4, SAMPLE, BASE, [3, 77], 2)
        self.assertEqual(state.number, 4)
        self.assertEqual(state.document, SAMPLE)
        self.assertEqual(state.base, BASE)
        self.assertEqual(state.held, [3, 77])
        self.assertEqual(state.included, 2)
        self.assertEqual(state.painted, [])

    def test_each_state_has_painted_blocks_of_its_own(self):
        one = State(0, SAMPLE, BASE, [], 0)
        other = State(0, SAMPLE, BASE, [], 0)
        one.painted.append(2)
        self.assertEqual(other.painted, [])


class Views(unittest.TestCase):
    def test_no_moves(self):
        self.assertEqual(State(0, SAMPLE, BASE, [], 0).view([]), BASE)

    def test_moves_behind_the_included_ones(self):
        views = [
            {1: 42, 3: 6, 5: 6, 10: 0},
            {1: 42, 3: 6, 5: 6, 10: 0},
            {1: 42, 3: 10, 5: 6, 10: 0},
            {1: 17, 3: 10, 5: 6, 10: 0},
            {1: 20, 3: 10, 5: 6, 10: 0},
            {1: 20, 3: 10, 5: 0, 10: 0},
        ]
        for included, view in enumerate(views):
            self.assertEqual(State(1, SAMPLE, BASE, [], included).view(MOVES), view, included)

    def test_moves_stay_in_the_range_one_by_one(self):
        state = State(1, SAMPLE, BASE, [], 1)
        self.assertEqual(state.view([(1, -9), (3, 1000), (3, -1), (1, -1000), (1, 2)]), {1: 2, 3: 29, 5: 0, 10: 0})

    def test_moves_of_scrollers_that_the_document_does_not_have(self):
        state = State(1, SAMPLE, BASE, [], 0)
        self.assertEqual(state.view([(12, 5), (2, 7), (1, 1), (999, -1)]), {1: 21, 3: 10, 5: 0, 10: 0})

    def test_held_numbers_do_not_matter(self):
        state = State(1, SAMPLE, BASE, [1, 3], 0)
        self.assertEqual(state.view([(1, 1), (3, 1)]), {1: 21, 3: 11, 5: 0, 10: 0})

    def test_a_view_changes_nothing_and_is_new(self):
        base = dict(BASE)
        moves = list(MOVES)
        state = State(1, SAMPLE, base, [], 1)
        for handed in (moves, []):
            view = state.view(handed)
            kept = dict(view)
            view[1] = 7
            view[8] = 8
            self.assertEqual(state.view(handed), kept)
        self.assertEqual(moves, MOVES)
        self.assertEqual(base, BASE)
        self.assertEqual(state.base, BASE)

    def test_a_scroller_that_has_nothing_to_scroll(self):
        state = State(0, scroller(1, 10, block(2, 10)), {1: 0}, [], 0)
        self.assertEqual(state.view([(1, 4), (1, -4)]), {1: 0})


if __name__ == "__main__":
    unittest.main()
