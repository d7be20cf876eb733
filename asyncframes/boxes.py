"""Boxes and documents, their numbers and limits."""

LEAST_NUMBER = 1
GREATEST_NUMBER = 999
LEAST_HEIGHT = 0
GREATEST_HEIGHT = 1000
MOST_BOXES = 40
MOST_SCROLLERS_WITHIN = 4


def is_scroller(box):
    return box[0] == "scroller"


def number_of(box):
    return box[1]


def height_of(box):
    return box[2]


def parts_of(box):
    """The parts of a scroller; a block has none."""
    if is_scroller(box):
        return box[3]
    return ()


def all_boxes(document):
    """The list of the boxes of a document, in tree order."""
    boxes = []
    # A list of the boxes still to come, and no recursion: a box that is no
    # document may be nested deeply.
    coming = [document]
    while coming:
        box = coming.pop()
        boxes.append(box)
        coming.extend(parts_of(box)[::-1])
    return boxes


def find(document, number):
    """The box with this number, or None."""
    for box in all_boxes(document):
        if number_of(box) == number:
            return box
    return None


def parent_of(document, number):
    """The number of the scroller that has the box as a part, or None."""
    for box in all_boxes(document):
        for part in parts_of(box):
            if number_of(part) == number:
                return number_of(box)
    return None


def is_number(value):
    return LEAST_NUMBER <= value <= GREATEST_NUMBER


def is_height(value):
    return LEAST_HEIGHT <= value <= GREATEST_HEIGHT


def scrollers_within(box):
    """How many scrollers lie within one another at most, the box included."""
    many = 0
    layer = [box]
    while layer:
        layer = [each for each in layer if is_scroller(each)]
        if layer:
            many += 1
        layer = [part for each in layer for part in parts_of(each)]
    return many


def is_document(box):
    """Whether a box, of any integers as numbers and heights, is a document."""
    boxes = all_boxes(box)
    numbers = [number_of(each) for each in boxes]
    heights = [height_of(each) for each in boxes]
    return (
        is_scroller(box)
        and all([is_number(number) for number in numbers])
        and all([is_height(height) for height in heights])
        and len(boxes) <= MOST_BOXES
        and len(set(numbers)) == len(numbers)
        and scrollers_within(box) <= MOST_SCROLLERS_WITHIN
    )
