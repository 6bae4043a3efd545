"""Sayings turned inward: "not" at letters alone, and no "gives"."""

from anymarks.sayings import need_saying
from anymarks.words import words_of

# What each word becomes beneath a not.
TURNED = {"yes": "no", "no": "yes", "and": "or", "or": "and", "each": "some", "some": "each"}


def inward(saying):
    """Return the saying turned inward."""
    return turned(need_saying(saying), False)


def turned_about(saying):
    """Return not of the saying, turned inward."""
    return turned(need_saying(saying), True)


def turned(saying, beneath):
    """Return a saying turned inward, or, if it stands beneath a not, not of it so."""
    word = saying[0]
    if word == "letter" or word == "here":
        return ("not", saying) if beneath else saying
    if word == "not":
        return turned(saying[1], not beneath)
    if word == "gives":
        joint = "and" if beneath else "or"
        return (joint, turned(saying[1], not beneath), turned(saying[2], beneath))
    outer = TURNED[word] if beneath else word
    if len(saying) == 1:
        return (outer,)
    if word == "each" or word == "some":
        return (outer, saying[1], turned(saying[2], beneath))
    return (outer, turned(saying[1], beneath), turned(saying[2], beneath))


def is_positive(saying):
    """Return whether the saying, turned inward, has no not."""
    return "not" not in [word[0] for word in words_of(inward(saying))]


def is_negative(saying):
    """Return whether in the saying, turned inward, each letter stands beneath a not."""
    return all_denied(inward(saying))


def all_denied(saying):
    """Tell whether an inward saying is negative."""
    found = [word[0] for word in words_of(saying)]
    # Turned inward each not stands at just one letter: so counting them is enough.
    return found.count("not") == found.count("letter")
