"""The thread that scrolls, paints and draws the newest state it has."""

from asyncframes.boxes import all_boxes, find, is_scroller, number_of
from asyncframes.errors import Busy, NoneWaiting, NotReady
from asyncframes.pictures import picture, under
from asyncframes.scrolling import moved, scrolled


class State:
    """A state of the main thread, and the numbers of its painted blocks."""

    def __init__(self, number, document, base, held, included):
        self.number = number
        self.document = document
        self.base = dict(base)
        self.held = list(held)
        self.included = included
        self.painted = []

    def view(self, moves):
        """The offsets of the state, with the moves behind the included ones."""
        return moved(self.document, self.base, moves[self.included:])

    def fork(self):
        """A state that is painted alike, by itself."""
        other = State(self.number, self.document, self.base, self.held, self.included)
        other.painted = list(self.painted)
        return other


class Painter:
    """The active and the pending state, and the scrolls of the user."""

    def __init__(self, state):
        self.active = state
        self.pending = None
        self.moves = []
        self.waiting = []

    def scroll(self, row, amount):
        """The moves of a scroll by the user, or None if it is waiting."""
        if amount == 0:
            return ()
        path, target = under(self.active.document, self.active.view(self.moves), row)
        if any([number in self.active.held for number in path + (target,)]):
            self.waiting.append((path, amount))
            return None
        return self.scroll_path(path, amount)

    def scroll_path(self, path, amount):
        """The moves of a scroll of a path, which join the list of moves."""
        active = self.active
        _, moves = scrolled(active.document, active.view(self.moves), path, amount)
        self.moves.extend(moves)
        return moves

    def answer(self, allowed):
        """The moves of the oldest waiting scroll. Raises NoneWaiting."""
        if not self.waiting:
            raise NoneWaiting("no scroll is waiting")
        path, amount = self.waiting.pop(0)
        if not allowed:
            return ()
        # The scroll may be older than the active state.
        return self.scroll_path(scrollers_among(self.active.document, path), amount)

    def receive(self, state):
        """Makes a state the pending one. Raises Busy."""
        if self.pending is not None:
            raise Busy("there is a pending state already")
        # The state that is handed in stays as it is: its copy gets the blocks.
        pending = state.fork()
        pending.painted = painted_at_commit(self.active, state)
        self.pending = pending

    def paint(self):
        """Paints one block; the number of it, or None if all are painted."""
        state = self.active if self.pending is None else self.pending
        number = next_block(state, self.moves)
        if number is not None:
            state.painted = sorted(state.painted + [number])
        return number

    def take(self):
        """Makes the pending state the active one. Raises NotReady."""
        if self.pending is None:
            raise NotReady("there is no pending state")
        if missing_blocks(self.pending, self.moves):
            raise NotReady("a block of the pending state is seen that is not painted")
        self.active = self.pending
        self.pending = None
        return self.active.number

    def frame(self):
        """The frame that the active state shows now."""
        active = self.active
        blocks = picture(active.document, active.view(self.moves))
        shown = [block + (block[0] in active.painted,) for block in blocks]
        return active.number, len(self.moves), shown

    def fork(self):
        """A painter that goes on alike, by itself."""
        other = Painter(self.active.fork())
        if self.pending is not None:
            other.pending = self.pending.fork()
        other.moves = list(self.moves)
        other.waiting = list(self.waiting)
        return other


def scrollers_among(document, numbers):
    """Those of the numbers that scrollers of the document have."""
    boxes = [find(document, number) for number in numbers]
    return [number_of(box) for box in boxes if box is not None and is_scroller(box)]


def painted_at_commit(active, state):
    """The blocks of a new state that are painted in it or, as they are, in the active one."""
    painted = painted_boxes(active) + painted_boxes(state)
    return sorted([number_of(box) for box in all_boxes(state.document) if box in painted])


def painted_boxes(state):
    return [box for box in all_boxes(state.document) if number_of(box) in state.painted]


def missing_blocks(state, moves):
    """The blocks of a state that are seen and not painted, in tree order."""
    blocks = picture(state.document, state.view(moves))
    return [block[0] for block in blocks if block[0] not in state.painted]


def next_block(state, moves):
    """The block that a step of painting paints in a state, or None."""
    blocks = [number_of(box) for box in all_boxes(state.document) if not is_scroller(box)]
    coming = missing_blocks(state, moves) + [number for number in blocks if number not in state.painted]
    return coming[0] if coming else None
