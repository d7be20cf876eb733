"""Both threads, stepped one by one, and the frames that they draw."""

from asyncframes.errors import NotBegun
from asyncframes.main_thread import MainThread
from asyncframes.painter import Painter, State


class System:
    """A main thread, a painter, and what went between them so far."""

    def __init__(self, document):
        self.main = MainThread(document)
        self.painter = Painter(State(0, document, self.main.offsets, self.main.held, 0))
        self.told = 0
        self.begun = False
        # Whether the main thread did anything since the last commit.
        self.stirred = False
        # For each state, how many deeds were done up to its commit.
        self.deeds_behind = [0]
        # The frames, each with its history: (frame, deeds).
        self.drawn = []

    def edit(self, edit):
        self.main.do(("edit", edit))
        self.stirred = True

    def set_offset(self, number, offset):
        self.main.do(("set", number, offset))
        self.stirred = True

    def hold(self, number):
        self.stirred = True
        return self.main.hold(number)

    def release(self, number):
        self.stirred = True
        return self.main.release(number)

    def begin(self):
        """Tells the main thread the moves that are new to it; how many."""
        moves = self.painter.moves[self.told:]
        self.main.tell(moves)
        self.told += len(moves)
        self.begun = True
        if moves:
            self.stirred = True
        return len(moves)

    def commit(self):
        """The number of the new pending state. Raises NotBegun, Busy."""
        if not self.begun:
            raise NotBegun("the main thread has not begun since the last commit")
        main = self.main
        number = len(self.deeds_behind)
        self.painter.receive(State(number, main.document, main.offsets, main.held, self.told))
        self.deeds_behind.append(len(main.deeds))
        self.begun = False
        self.stirred = False
        return number

    def scroll(self, row, amount):
        return self.painter.scroll(row, amount)

    def answer(self, allowed):
        return self.painter.answer(allowed)

    def paint(self):
        return self.painter.paint()

    def take(self):
        return self.painter.take()

    def draw(self):
        """The frame of now, which is kept with its history."""
        frame = self.painter.frame()
        self.drawn.append((frame, self.history()))
        return copied(frame)

    def history(self):
        """The deeds after which one thread alone would show the frame of now."""
        active = self.painter.active
        deeds = self.main.deeds[:self.deeds_behind[active.number]]
        moves = self.painter.moves[active.included:]
        if moves:
            deeds.append(("moves", tuple(moves)))
        return deeds

    def frames(self):
        """The list of the frames that were drawn."""
        return [copied(frame) for frame, _ in self.drawn]

    def histories(self):
        """The list of the histories of these frames."""
        return [list(deeds) for _, deeds in self.drawn]

    def fork(self):
        """A system with the same frames that goes on alike, by itself."""
        other = System(self.main.document)
        other.main = self.main.fork()
        other.painter = self.painter.fork()
        other.told = self.told
        other.begun = self.begun
        other.stirred = self.stirred
        other.deeds_behind = list(self.deeds_behind)
        other.drawn = list(self.drawn)
        return other


def copied(frame):
    """The frame, with a list of its own."""
    number, moves, blocks = frame
    return number, moves, list(blocks)
