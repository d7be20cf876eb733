"""Deeds, and what one thread alone does with them."""

from asyncframes.edits import edited, existing_scroller, offsets_after
from asyncframes.layout import fitted, nearest, range_of
from asyncframes.scrolling import moved


def do_deed(document, offsets, deed):
    """The document and its offsets after a deed; raises as the deed."""
    word = deed[0]
    if word == "edit":
        later = edited(document, deed[1])
        return later, offsets_after(document, offsets, later)
    if word == "set":
        return document, offsets_with(document, offsets, deed[1], deed[2])
    return document, moved(document, offsets, deed[1])


def offsets_with(document, offsets, number, offset):
    """The offsets, of which one is set. Raises NoSuchBox, NotAScroller."""
    scroller = existing_scroller(document, number)
    later = dict(offsets)
    later[number] = nearest(offset, range_of(scroller))
    return later


def plain_run(document, deeds):
    """The document and its offsets after deeds, from all offsets 0."""
    offsets = fitted(document, {})
    for deed in deeds:
        document, offsets = do_deed(document, offsets, deed)
    return document, offsets
