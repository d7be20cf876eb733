"""Steps of systems for the tests, in many orders that are the same each time."""

from asyncframes.boxes import all_boxes
from asyncframes.errors import FrameError
from asyncframes.systems import System


class Dice:
    """Numbers without a visible order, the same ones for the same seed."""

    def __init__(self, seed):
        self.value = seed * 7919 + 17

    def below(self, many):
        self.value = (self.value * 1103515245 + 12345) % 2147483648
        return (self.value >> 8) % many

    def one_of(self, things):
        return things[self.below(len(things))]


def document_of(dice):
    """A document of a few boxes, with more rows in it than are seen."""
    number = [1]

    def box_of(level):
        number[0] += 1
        own = number[0]
        if level < 4 and dice.below(3) == 0:
            return ("scroller", own, 5 + dice.below(25), parts_of(level + 1))
        return ("block", own, dice.below(20))

    def parts_of(level):
        parts = []
        for _ in range(dice.below(4) + (2 if level == 1 else 0)):
            if number[0] < 9:
                parts.append(box_of(level))
        return tuple(parts)

    return ("scroller", 1, 10 + dice.below(30), parts_of(1))


def edit_of(dice, document):
    """An edit, often one that is refused or names no box."""
    numbers = [box[1] for box in all_boxes(document)] + [50, 51]
    way = dice.below(3)
    if way == 0:
        if dice.below(3) == 0:
            box = ("scroller", dice.one_of([50, 51, 52]), dice.below(20), (("block", dice.one_of([53, 54]), 9),))
        else:
            box = ("block", dice.one_of([2, 3, 50, 51, 52, 53]), dice.below(25))
        return ("insert", dice.one_of(numbers), dice.below(4), box)
    if way == 1:
        return ("remove", dice.one_of(numbers))
    return ("resize", dice.one_of(numbers), dice.below(40))


def words_of(dice):
    """The methods to choose from on one walk; on some, few blocks are painted."""
    words = ["edit", "set_offset", "hold", "release", "draw"] + 2 * ["begin", "commit", "take"] + 3 * ["scroll"]
    return words + dice.below(3) * ["answer"] + dice.below(2) * ["hold"] + 2 * dice.below(5) * ["paint"]


def step_of(dice, words, system):
    """The next step for a system, as a tuple of a method and its arguments."""
    word = dice.one_of(words)
    numbers = [box[1] for box in all_boxes(system.main.document)] + [50, 77]
    if word == "edit":
        return word, edit_of(dice, system.main.document)
    if word == "set_offset":
        return word, dice.one_of(numbers), dice.below(60) - 20
    if word == "hold":
        return word, dice.one_of(numbers)
    if word == "release":
        return word, dice.one_of(system.main.held + numbers[-1:])
    if word == "answer":
        return word, dice.below(3) > 0
    if word == "scroll":
        height = system.painter.active.document[2]
        if height == 0:
            return ("paint",)
        return word, dice.below(height), dice.below(41) - 15
    return (word,)


def outcome(system, step):
    """What a step returns, or the name of the error that it raises."""
    try:
        return "returned", getattr(system, step[0])(*step[1:])
    except FrameError as error:
        return "raised", error.__class__.__name__


class Walk:
    """A system, and dice that choose its steps; the same for the same seed."""

    def __init__(self, seed):
        self.dice = Dice(seed)
        self.words = words_of(self.dice)
        self.first = document_of(self.dice)
        self.system = System(self.first)

    def chosen(self):
        return step_of(self.dice, self.words, self.system)

    def go(self):
        """Does one step; the step and its outcome."""
        step = self.chosen()
        return step, outcome(self.system, step)


def walked(seed, many):
    """A system behind many steps, and these steps, each with its outcome."""
    walk = Walk(seed)
    log = [walk.go() for _ in range(many)]
    return walk.system, log


def paint_all(painting):
    """Paints what a painter or a system has left; the numbers, in order."""
    numbers = []
    number = painting.paint()
    while number is not None:
        numbers.append(number)
        number = painting.paint()
    return numbers


def commit_and_take(system):
    """Brings what the main thread has to the painter, with all blocks painted."""
    system.begin()
    system.commit()
    paint_all(system)
    system.take()


def of_state(state):
    """All that can be read of a state."""
    if state is None:
        return None
    return (
        state.number, state.document, sorted(state.base.items()), list(state.held), state.included, list(state.painted),
    )


def of_main(main):
    """All that can be read of a main thread."""
    return main.document, sorted(main.offsets.items()), list(main.held), list(main.deeds)


def of_painter(painter):
    """All that can be read of a painter."""
    return of_state(painter.active), of_state(painter.pending), list(painter.moves), list(painter.waiting)


def of_system(system):
    """All that can be read of a system."""
    return of_main(system.main), of_painter(system.painter), system.frames(), system.histories()
