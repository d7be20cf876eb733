"""Boxes for the tests, written short."""


def block(number, height=10):
    return ("block", number, height)


def scroller(number, height, *parts):
    return ("scroller", number, height, parts)


def with_boxes(many):
    """A document with so many boxes, the root included, in one row."""
    return scroller(1, 100, *[block(number) for number in range(2, many + 1)])


def nested(many, inmost=()):
    """So many scrollers within one another, numbered from 1 on."""
    box = scroller(many, 10, *inmost)
    for number in range(many - 1, 0, -1):
        box = scroller(number, 10, box)
    return box


# Three levels of scrollers, blocks between them, one scroller without parts:
#
#   1 (100 high): 2 block 30
#                 3 scroller 80: 4 block 50
#                                5 scroller 40: 6 block 25, 7 block 0, 8 block 35
#                                9 block 20
#                 10 scroller 20: nothing
#                 11 block 15
SAMPLE = (
    "scroller", 1, 100, (
        ("block", 2, 30),
        ("scroller", 3, 80, (
            ("block", 4, 50),
            ("scroller", 5, 40, (("block", 6, 25), ("block", 7, 0), ("block", 8, 35))),
            ("block", 9, 20),
        )),
        ("scroller", 10, 20, ()),
        ("block", 11, 15),
    ),
)

SAMPLE_TEXT = "s1:100[b2:30 s3:80[b4:50 s5:40[b6:25 b7:0 b8:35] b9:20] s10:20[] b11:15]"
