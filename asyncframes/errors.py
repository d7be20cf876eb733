"""The errors of the program."""


class FrameError(ValueError):
    """The base class of all errors."""


class TextError(FrameError):
    """A text that is no document, with the place where this shows."""

    def __init__(self, place, message):
        super().__init__(f"{message} at {place}")
        self.place = place
        self.message = message


class NoSuchBox(FrameError):
    """No box has the number."""


class NotAScroller(FrameError):
    """The box is a block where a scroller is needed."""


class RefusedEdit(FrameError):
    """The edit would not make a document."""


class NotBegun(FrameError):
    """The main thread has not begun since its last commit."""


class Busy(FrameError):
    """There is a pending state already."""


class NoneWaiting(FrameError):
    """No scroll is waiting."""


class NotReady(FrameError):
    """There is no pending state that could be taken over."""
