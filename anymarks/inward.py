"""Sayings turned inward: "not" at letters alone, and no "gives"."""

from anymarks.sayings import need_saying
from anymarks.words import words_of

# What each word becomes beneath a not.
TURNED = {"yes": "no", "no": "yes", "and": "or", "or": "and", "each": "some", "some": "each"}


def inward(saying):
    """Return the saying turned inward."""
    return turned(need_saying(saying), False)


def turned_about(saying):
    """Return not of the saying, turned inward."""
    return turned(need_saying(saying), True)


def turned(saying, beneath):
    """Return a saying or term turned inward, or, if it stands beneath a not, not of it so."""
    return judged(saying, beneath)[1]


def judged(saying, beneath):
    """Return (DENIED, TURNED, PARTS) of a saying turned inward, or, beneath a not, of not of it.

    DENIED tells whether it is negative, PARTS has the same of each of its parts: so what
    is asked of the parts again and again is found out once. A "here" stays as letters do.
    """
    word = saying[0]
    if word == "letter" or word == "here":
        return (beneath, ("not", saying) if beneath else saying, ())
    if word == "not":
        return judged(saying[1], not beneath)
    if len(saying) == 1:
        return (True, (TURNED[word],) if beneath else saying, ())
    if word == "gives":
        first = judged(saying[1], not beneath)
        outer = "and" if beneath else "or"
    elif word == "each" or word == "some":
        inner = judged(saying[2], beneath)
        return (inner[0], (TURNED[word] if beneath else word, saying[1], inner[1]), (inner,))
    else:
        first = judged(saying[1], beneath)
        outer = TURNED[word] if beneath else word
    second = judged(saying[2], beneath)
    return (first[0] and second[0], (outer, first[1], second[1]), (first, second))


def is_positive(saying):
    """Return whether the saying, turned inward, has no not."""
    return "not" not in [word[0] for word in words_of(inward(saying))]


def is_negative(saying):
    """Return whether in the saying, turned inward, each letter stands beneath a not."""
    return judged(need_saying(saying), False)[0]
