"""Pieces and boxes: what stands beneath an each on the walk through a saying."""

from anymarks.errors import NoRow
from anymarks.inward import judged
from anymarks.sayings import need_saying
from anymarks.words import letters_of


class Piece:
    """A piece: the steps that lead to its core from without, and the core, judged.

    A step is ("each", W), or ("before", N) or ("behind", N) for an "or" in which the
    negative part N stands before or behind. A piece is negative if its core is, a box if
    this is a letter.
    """

    def __init__(self, steps, core):
        self.steps = steps
        self.denied = core[0]
        self.core = core[1]

    def is_box(self):
        """Tell whether the piece is a box."""
        return not self.denied and self.core[0] == "letter"

    def saying(self):
        """Return the piece as a saying."""
        told = self.core
        for word, thing in self.steps[::-1]:
            if word == "each":
                told = ("each", thing, told)
            elif word == "before":
                told = ("or", thing, told)
            else:
                told = ("or", told, thing)
        return told

    def needed(self):
        """Return the ascending tuple of the letters in the negative parts."""
        negative = [thing for word, thing in self.steps if word != "each"]
        return letters_of(negative) if negative else ()


def pieces_in(whole):
    """Return the list of the Pieces of a judged saying, in order."""
    pieces = []
    waiting = [((), whole)]
    while waiting:
        steps, core = waiting.pop()
        denied, saying, parts = core
        word = saying[0]
        if denied or word in ("letter", "some"):
            pieces.append(Piece(steps, core))
        elif word == "and":
            # The last one that waits is met next: so the first part is met first.
            waiting.extend([(steps, parts[1]), (steps, parts[0])])
        elif word == "each":
            waiting.append((steps + (("each", saying[1]),), parts[0]))
        elif parts[0][0]:
            waiting.append((steps + (("before", saying[1]),), parts[1]))
        elif parts[1][0]:
            waiting.append((steps + (("behind", saying[2]),), parts[0]))
        else:
            pieces.append(Piece(steps, core))
    return pieces


def _pieces_inward(saying):
    return pieces_in(judged(need_saying(saying), False))


def pieces_of(saying):
    """Return the tuple of the pieces of the saying turned inward, in order."""
    return tuple([piece.saying() for piece in _pieces_inward(saying)])


def is_box(saying):
    """Return whether the saying turned inward is a box."""
    return _only_box(_pieces_inward(saying)) is not None


def head_of(saying):
    """Return the head of the box that the saying turned inward is."""
    return _need_box(saying).core[1]


def needed_in(saying):
    """Return the ascending tuple of the letters needed for the head of the box."""
    return _need_box(saying).needed()


def _only_box(pieces):
    """Return the one piece of a saying that is a box, None of any other saying."""
    return pieces[0] if len(pieces) == 1 and pieces[0].is_box() else None


def _need_box(saying):
    box = _only_box(_pieces_inward(saying))
    if box is None:
        raise NoRow()
    return box
