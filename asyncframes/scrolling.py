"""Scrolls along a path, and the moves that they make."""

from asyncframes.boxes import find
from asyncframes.layout import nearest, range_of, ranges


def scrolled(document, offsets, path, amount):
    """The offsets behind a scroll of a path, and the tuple of its moves."""
    later = dict(offsets)
    moves = []
    left = amount
    for number in path:
        step = step_of(later[number], left, range_of(find(document, number)))
        if step != 0:
            later[number] += step
            moves.append((number, step))
        left -= step
    return later, tuple(moves)


def step_of(offset, amount, greatest):
    """How far an offset up to the greatest one goes, at most the amount."""
    if amount > 0:
        return max(0, min(amount, greatest - offset))
    return min(0, max(amount, -offset))


def moved(document, offsets, moves):
    """The offsets after moves, done one after another."""
    greatest = ranges(document)
    later = dict(offsets)
    for number, amount in moves:
        # A move may be older than the document: its scroller may be gone.
        if number in greatest:
            later[number] = nearest(later[number] + amount, greatest[number])
    return later
