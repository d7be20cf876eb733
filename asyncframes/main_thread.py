"""The thread that edits the document."""

from asyncframes.layout import fitted
from asyncframes.plain import do_deed


class MainThread:
    """A document, its offsets, the held numbers and the deeds done so far."""

    def __init__(self, document):
        self.document = document
        self.offsets = fitted(document, {})
        self.held = []
        self.deeds = []

    def do(self, deed):
        """Does an edit or a set; raises as the deed."""
        self.document, self.offsets = do_deed(self.document, self.offsets, deed)
        self.deeds.append(deed)

    def hold(self, number):
        """Holds a number; returns whether this changed what is held."""
        if number in self.held:
            return False
        self.held = sorted(self.held + [number])
        return True

    def release(self, number):
        """Releases a number; returns whether this changed what is held."""
        if number not in self.held:
            return False
        self.held = [each for each in self.held if each != number]
        return True

    def tell(self, moves):
        """Does moves that the thread is told, as one deed if there are any."""
        if moves:
            self.do(("moves", tuple(moves)))

    def fork(self):
        """A thread that goes on alike, by itself."""
        other = MainThread(self.document)
        other.offsets = dict(self.offsets)
        other.held = list(self.held)
        other.deeds = list(self.deeds)
        return other
