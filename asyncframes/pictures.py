"""What is seen of a document, and what lies under a row of it."""

from asyncframes.boxes import all_boxes, is_scroller, number_of, parts_of
from asyncframes.layout import windows


def picture(document, offsets):
    """The list of the blocks that are seen, as (number, top, first, behind)."""
    laid_out = windows(document, offsets)
    blocks = []
    for box in all_boxes(document):
        window = laid_out[number_of(box)]
        if not is_scroller(box) and is_seen(window):
            blocks.append((number_of(box),) + window)
    return blocks


def is_seen(window):
    _, first, behind = window
    return first < behind


def under(document, offsets, row):
    """The path, its innermost scroller first, and the target under a row."""
    laid_out = windows(document, offsets)
    path = []
    box = document
    while box is not None and is_scroller(box):
        path.append(number_of(box))
        box = part_at(box, laid_out, row)
    target = None if box is None else number_of(box)
    return tuple(path[::-1]), target


def part_at(scroller, laid_out, row):
    """The part of a scroller in whose window the row lies, or None."""
    for part in parts_of(scroller):
        _, first, behind = laid_out[number_of(part)]
        if first <= row < behind:
            return part
    return None
