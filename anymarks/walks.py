"""Pieces and boxes: what stands beneath an each on the walk through a saying."""

from anymarks.errors import NoRow
from anymarks.inward import all_denied, inward
from anymarks.words import letters_of


def pieces_of(saying):
    """Return the tuple of the pieces of the saying turned inward, in order."""
    return tuple(pieces_in(inward(saying)))


def pieces_in(saying):
    """Return the list of the pieces of an inward saying."""
    word = saying[0]
    if all_denied(saying):
        return [saying]
    if word == "and":
        return pieces_in(saying[1]) + pieces_in(saying[2])
    if word == "each":
        return [("each", saying[1], piece) for piece in pieces_in(saying[2])]
    if word == "or" and all_denied(saying[1]):
        return [("or", saying[1], piece) for piece in pieces_in(saying[2])]
    if word == "or" and all_denied(saying[2]):
        return [("or", piece, saying[2]) for piece in pieces_in(saying[1])]
    return [saying]


def opened(saying):
    """Return (STEPS, HEAD) if an inward saying is a box, else None.

    The steps lead from without to the head: ("each", W), or ("or", N) with the
    negative part N.
    """
    steps = []
    while saying[0] != "letter":
        step, saying = _behind_step(saying)
        if step is None:
            return None
        steps.append(step)
    return steps, saying[1]


def _behind_step(saying):
    word = saying[0]
    if word == "each":
        return ("each", saying[1]), saying[2]
    if word == "or" and all_denied(saying[1]):
        return ("or", saying[1]), saying[2]
    if word == "or" and all_denied(saying[2]):
        return ("or", saying[2]), saying[1]
    return None, saying


def is_box(saying):
    """Return whether the saying turned inward is a box."""
    return opened(inward(saying)) is not None


def head_of(saying):
    """Return the head of the box that the saying turned inward is."""
    return _need_box(saying)[1]


def needed_in(saying):
    """Return the ascending tuple of the letters needed for the head of the box."""
    return needed_by(_need_box(saying)[0])


def _need_box(saying):
    box = opened(inward(saying))
    if box is None:
        raise NoRow()
    return box


def needed_by(steps):
    """Return the ascending tuple of the letters in the negative parts of a box."""
    return letters_of([thing for word, thing in steps if word == "or"])
