"""When nothing is left to do for the two threads, and how they come to it."""

from asyncframes.boxes import find
from asyncframes.painter import missing_blocks, next_block
from asyncframes.pictures import picture


def is_quiet(system):
    """Whether a system is quiet."""
    painter = system.painter
    return (
        not needs_commit(system)
        and painter.pending is None
        and not painter.waiting
        and not missing_blocks(painter.active, painter.moves)
    )


def needs_commit(system):
    """Whether the main thread has something that no commit has yet."""
    return system.stirred or system.told < len(system.painter.moves)


def to_quiet(system):
    """The first of the shortest lists of inner steps to a quiet system.

    None if a scroll is waiting.
    """
    if system.painter.waiting:
        return None
    ahead = system.fork()
    steps = []
    while not is_quiet(ahead):
        step = next_step(ahead)
        inner(ahead, step)
        steps.append(step)
    return steps


def next_step(system):
    """The first inner step of the shortest ways to a quiet system."""
    painter = system.painter
    if needs_commit(system):
        if not system.begun or system.told < len(painter.moves):
            return "begin"
        if painter.pending is None:
            return "commit"
    if painter.pending is None or missing_blocks(painter.pending, painter.moves):
        return "paint"
    # A block that the next state shows, too, takes one step now or later: the
    # list in which it is painted now comes first.
    if needs_commit(system) and is_painted_ahead(system):
        return "paint"
    return "take"


def is_painted_ahead(system):
    """Whether painting the pending state now paints for the next state, too."""
    main = system.main
    pending = system.painter.pending
    number = next_block(pending, system.painter.moves)
    shown = [block[0] for block in picture(main.document, main.offsets)]
    return number in shown and find(main.document, number) == find(pending.document, number)


def inner(system, step):
    """Does an inner step and returns what the method returns."""
    if step == "begin":
        return system.begin()
    if step == "commit":
        return system.commit()
    if step == "paint":
        return system.paint()
    return system.take()
