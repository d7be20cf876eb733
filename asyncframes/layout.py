"""Where the parts of scrollers stand, and what is seen of them."""

from asyncframes.boxes import all_boxes, height_of, is_scroller, number_of, parts_of


def places(scroller):
    """The list of the places of the parts of a scroller."""
    found = []
    place = 0
    for part in parts_of(scroller):
        found.append(place)
        place += height_of(part)
    return found


def length_of(scroller):
    return sum([height_of(part) for part in parts_of(scroller)])


def range_of(scroller):
    return max(0, length_of(scroller) - height_of(scroller))


def ranges(document):
    """The ranges of the scrollers of a document, by their numbers."""
    return {number_of(box): range_of(box) for box in all_boxes(document) if is_scroller(box)}


def nearest(offset, greatest):
    """The offset that is nearest to this integer, of those up to the greatest."""
    return max(0, min(offset, greatest))


def fitted(document, offsets):
    """The integers of a dictionary, fitted to the scrollers of a document."""
    greatest = ranges(document)
    return {number: nearest(offsets.get(number, 0), greatest[number]) for number in greatest}


def windows(document, offsets):
    """For the number of each box its top and window: (top, first, behind)."""
    found = {number_of(document): (0, 0, height_of(document))}
    # In tree order a scroller comes before its parts, so its own window is
    # known when they need it.
    for box in all_boxes(document):
        if is_scroller(box):
            found.update(windows_of_parts(box, offsets[number_of(box)], found[number_of(box)]))
    return found


def windows_of_parts(scroller, offset, window):
    """The same for the parts of one scroller that has this top and window."""
    top, first, behind = window
    found = {}
    for part, place in zip(parts_of(scroller), places(scroller)):
        part_top = top + place - offset
        part_behind = part_top + height_of(part)
        found[number_of(part)] = (part_top, max(part_top, first), min(part_behind, behind))
    return found
