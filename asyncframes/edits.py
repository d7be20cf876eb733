"""The edits of a document, and its offsets after one."""

from asyncframes.boxes import (
    all_boxes,
    find,
    height_of,
    is_document,
    is_scroller,
    number_of,
    parent_of,
    parts_of,
)
from asyncframes.errors import NoSuchBox, NotAScroller, RefusedEdit
from asyncframes.layout import fitted, places


def edited(document, edit):
    """The document after an edit. Raises NoSuchBox, NotAScroller, RefusedEdit."""
    word = edit[0]
    if word == "insert":
        later = inserted(document, edit[1], edit[2], edit[3])
    elif word == "remove":
        later = removed(document, edit[1])
    else:
        later = resized(document, edit[1], edit[2])
    if not is_document(later):
        raise RefusedEdit("what comes out of the edit is no document")
    return later


def inserted(document, parent, index, box):
    scroller = existing_scroller(document, parent)
    parts = parts_of(scroller)
    if not 0 <= index <= len(parts):
        raise RefusedEdit(f"the parts of scroller {parent} have no place for the index {index}")
    return replaced(document, parent, with_parts(scroller, parts[:index] + (box,) + parts[index:]))


def removed(document, number):
    existing_box(document, number)
    if number == number_of(document):
        raise RefusedEdit("the root cannot be removed")
    parent = parent_of(document, number)
    scroller = find(document, parent)
    parts = [part for part in parts_of(scroller) if number_of(part) != number]
    return replaced(document, parent, with_parts(scroller, parts))


def resized(document, number, height):
    return replaced(document, number, with_height(existing_box(document, number), height))


def existing_box(document, number):
    """The box with this number. Raises NoSuchBox."""
    box = find(document, number)
    if box is None:
        raise NoSuchBox(f"no box has the number {number}")
    return box


def existing_scroller(document, number):
    """The scroller with this number. Raises NoSuchBox, NotAScroller."""
    box = existing_box(document, number)
    if not is_scroller(box):
        raise NotAScroller(f"box {number} is a block")
    return box


def with_parts(scroller, parts):
    return ("scroller", number_of(scroller), height_of(scroller), tuple(parts))


def with_height(box, height):
    if is_scroller(box):
        return ("scroller", number_of(box), height, parts_of(box))
    return ("block", number_of(box), height)


def replaced(box, number, other):
    """The box, in which another one stands for the one with this number."""
    if number_of(box) == number:
        return other
    if not is_scroller(box):
        return box
    return with_parts(box, [replaced(part, number, other) for part in parts_of(box)])


def anchor(scroller, offset):
    """The number of the part that a scroller holds in its place, or None."""
    if offset <= 0:
        return None
    for part, place in zip(parts_of(scroller), places(scroller)):
        if place + height_of(part) > offset:
            return number_of(part)
    return None


def offsets_after(document, offsets, later):
    """The offsets for a document that one edit made of another one."""
    found = {}
    for before in all_boxes(document):
        number = number_of(before)
        after = find(later, number)
        if is_scroller(before) and after is not None:
            found[number] = offsets[number] + shift_of_anchor(before, after, offsets[number])
    return fitted(later, found)


def shift_of_anchor(before, after, offset):
    """How far an edit shifted the anchor of a scroller; 0 if it has none."""
    number = anchor(before, offset)
    new_places = places_by_number(after)
    if number not in new_places:
        return 0
    return new_places[number] - places_by_number(before)[number]


def places_by_number(scroller):
    return {number_of(part): place for part, place in zip(parts_of(scroller), places(scroller))}
