"""From a form back to a saying that is kept just where it holds."""

from anymarks.errors import TooGreat
from anymarks.forms import NOWHERE, need_form
from anymarks.sayings import MOST_DEEP, MOST_WORDS
from anymarks.there import form_of
from anymarks.words import LETTERS, joined, joined_size, replaced, size_of


def saying_of(form):
    """Return a saying that is kept just where the form holds."""
    return asking_saying([(tree, _asked(facts)) for tree, facts in need_form(form)])


def _asked(facts):
    """Return for each world the list of what is asked there itself."""
    letters = [("letter", place) for place in range(LETTERS)]
    denied = [[("not", replaced(fact, "here", letters))] if fact != NOWHERE else [] for fact in facts]
    return [[letters[place]] + parts for place, parts in enumerate(denied)]


def asking_saying(clauses):
    """Return the saying that for each clause, (TREE, ASKED), denies a row with all that is asked.

    ASKED has for each world the list of what is asked there; the sizes are counted ahead.
    """
    sizes = []
    for tree, asked in clauses:
        own = [[size_of(part) for part in parts] for parts in asked]
        sizes.append(_one_more(_size_at(tree, own, 0)))
    words, deep = joined_size(sizes)
    if words > MOST_WORDS:
        raise TooGreat(MOST_WORDS)
    if deep > MOST_DEEP:
        raise TooGreat(MOST_DEEP)
    return joined("and", [("not", _asked_at(tree, asked, 0)) for tree, asked in clauses])


def _children(tree, place):
    """Return the list of the pairs (world, way) of the worlds with this parent."""
    return [(child, way) for child, (parent, way) in enumerate(tree, start=1) if parent == place]


def _asked_at(tree, asked, place):
    """Return what is asked at a world, there itself and along the branches from it."""
    further = [("some", way, _asked_at(tree, asked, child)) for child, way in _children(tree, place)]
    return joined("and", asked[place] + further)


def _size_at(tree, sizes, place):
    """Return (WORDS, DEEP) of what is asked at a world, of those of what is asked there itself."""
    further = [_one_more(_size_at(tree, sizes, child)) for child, _ in _children(tree, place)]
    return joined_size(sizes[place] + further)


def _one_more(size):
    """Return the size with a word put ahead."""
    words, deep = size
    return (words + 1, deep + 1)


def bared(saying):
    """Return the saying of the saying's form."""
    return saying_of(form_of(saying))
