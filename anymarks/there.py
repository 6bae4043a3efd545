"""The form that is read off a saying, and what its letters become."""

from anymarks.errors import TooGreat
from anymarks.forms import MOST_FACT_DEEP, MOST_FACT_WORDS, NOWHERE, form_worlds
from anymarks.inward import turned
from anymarks.sayings import need_saying
from anymarks.shapes import numbered_row, rows_in_shape
from anymarks.webs import need_web, turned_way
from anymarks.words import LETTERS, joined, joined_size, replaced, size_with


class Reading:
    """How a row of choices is told as a clause.

    letters[I] is the list of the sets of the letter I, facts[J] the list of the ends at
    x_J, both with the letters in them not yet put in and not yet put together: so they can
    be counted, or asked, ahead of that.
    """

    def __init__(self, row):
        self.tree = tuple(row.tree)
        self.order = row.letters_in_order()
        self.letters = {}
        for place, piece, _ in row.boxes:
            self.letters.setdefault(piece.core[1], []).append(_set_of(place, piece.steps))
        self.facts = [[end for end in ends if not self._is_nowhere(end)] for ends in row.ends]

    def _is_nowhere(self, end):
        """Tell whether an end becomes "no": it is "no" itself, or a letter that heads no box."""
        return end == NOWHERE or (end[0] == "letter" and end[1] not in self.letters)

    def letter_sizes(self):
        """Return the list of (WORDS, DEEP) of what each letter becomes."""
        sizes = [(1, 1)] * LETTERS
        for letter in self.order:
            sizes[letter] = _size_together(self.letters[letter], sizes)
        return sizes

    def fact_sizes(self):
        """Return the list of (WORDS, DEEP) of the facts of the clause."""
        sizes = self.letter_sizes()
        return [_size_together(ends, sizes) for ends in self.facts]

    def letter_facts(self):
        """Return what each letter becomes."""
        table = [NOWHERE] * LETTERS
        for letter in self.order:
            table[letter] = _put_together(self.letters[letter], table)
        return tuple(table)

    def clause(self):
        """Return the clause."""
        table = self.letter_facts()
        return (self.tree, tuple([_put_together(ends, table) for ends in self.facts]))


def _set_of(place, steps):
    """Return the set of a box at x_place, the letters needed for it not yet put in."""
    told = ("here", place)
    for word, thing in steps:
        if word == "each":
            told = ("some", turned_way(thing), told)
        else:
            told = ("and", told, turned(thing, True))
    return told


def _put_together(parts, table):
    """Return the parts put together by "or", table[I] in the stead of each letter I."""
    if not parts:
        return NOWHERE
    return joined("or", [replaced(part, "letter", table) for part in parts])


def _size_together(parts, sizes):
    """Return (WORDS, DEEP) of the parts put together, each letter I being of the size sizes[I]."""
    if not parts:
        return (1, 1)
    return joined_size([size_with(part, sizes) for part in parts])


def _need_small(sizes):
    """TooGreat if things of these sizes have too many words in all, or if one of them is too deep."""
    if sum([words for words, _ in sizes]) > MOST_FACT_WORDS:
        raise TooGreat(MOST_FACT_WORDS)
    if max([deep for _, deep in sizes]) > MOST_FACT_DEEP:
        raise TooGreat(MOST_FACT_DEEP)


def readings_of(saying):
    """Return the list of the Readings of all rows of choices, with the errors of form_of."""
    readings = [Reading(row) for row in rows_in_shape(saying)]
    _need_small([size for reading in readings for size in reading.fact_sizes()])
    return readings


def form_of(saying):
    """Return the form that is read off the saying."""
    return tuple([reading.clause() for reading in readings_of(saying)])


def facts_of(saying, number):
    """Return the tuple of eight facts that the letters become in the row with this number."""
    reading = Reading(numbered_row(saying, number))
    _need_small(reading.letter_sizes())
    return reading.letter_facts()


def kept_worlds(web, saying):
    """Return the ascending tuple of the worlds at which the saying's form holds."""
    need_web(web)
    return form_worlds(web, form_of(saying))


def same_forms(saying, other):
    """Return whether both sayings have one form, word for word."""
    need_saying(saying)
    need_saying(other)
    return form_of(saying) == form_of(other)
