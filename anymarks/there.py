"""The form that is read off a saying, and what its letters become."""

from anymarks.errors import TooGreat
from anymarks.forms import MOST_FACT_DEEP, MOST_FACT_WORDS, NOWHERE, form_worlds
from anymarks.inward import turned
from anymarks.sayings import need_saying
from anymarks.shapes import numbered_row, rows_in_shape
from anymarks.walks import opened
from anymarks.webs import need_web, turned_way
from anymarks.words import LETTERS, deep_with, joined, replaced, words_with


class Reading:
    """How a row of choices is told as a clause.

    letters[I] is the list of the sets of the letter I, facts[J] the list of the ends at
    x_J, both with the letters in them not yet put in and not yet put together: so they can
    be counted, or asked, ahead of that.
    """

    def __init__(self, row):
        self.tree = tuple(row.tree)
        self.order = row.letters_in_order()
        self.letters = [[] for _ in range(LETTERS)]
        for place, box in row.boxes:
            steps, head = opened(box)
            self.letters[head].append(_set_of(place, steps))
        self.facts = [[end for end in ends if not self._is_nowhere(end)] for ends in row.ends]

    def _is_nowhere(self, end):
        """Tell whether an end becomes "no": it is "no" itself, or a letter that heads no box."""
        return end == NOWHERE or (end[0] == "letter" and end[1] not in self.order)

    def letter_words(self):
        """Return how many words there are in what each letter becomes."""
        words = [1] * LETTERS
        for letter in self.order:
            words[letter] = _words_together(self.letters[letter], words)
        return words

    def letter_deeps(self):
        """Return how deep it is what each letter becomes."""
        deeps = [1] * LETTERS
        for letter in self.order:
            deeps[letter] = _deep_together(self.letters[letter], deeps)
        return deeps

    def letter_facts(self):
        """Return what each letter becomes."""
        table = [NOWHERE] * LETTERS
        for letter in self.order:
            table[letter] = _put_together(self.letters[letter], table)
        return tuple(table)

    def fact_words(self):
        """Return how many words the facts of the clause have."""
        words = self.letter_words()
        return sum([_words_together(ends, words) for ends in self.facts])

    def fact_deep(self):
        """Return how deep the deepest fact of the clause is."""
        deeps = self.letter_deeps()
        return max([_deep_together(ends, deeps) for ends in self.facts])

    def clause(self):
        """Return the clause."""
        table = self.letter_facts()
        return (self.tree, tuple([_put_together(ends, table) for ends in self.facts]))


def _set_of(place, steps):
    """Return the set of a box at x_place, the letters needed for it not yet put in."""
    told = ("here", place)
    for word, thing in steps:
        if word == "each":
            told = ("some", turned_way(thing), told)
        else:
            told = ("and", told, turned(thing, True))
    return told


def _put_together(parts, table):
    """Return the parts put together by "or", table[I] in the stead of each letter I."""
    if not parts:
        return NOWHERE
    return joined("or", [replaced(part, "letter", table) for part in parts])


def _words_together(parts, words):
    """Return how many words the parts put together have, words[I] for each letter I."""
    between = len(parts) - 1 if parts else 1
    return between + sum([words_with(part, words) for part in parts])


def _deep_together(parts, deeps):
    """Return how deep the parts put together are, each letter I being deeps[I] deep."""
    if not parts:
        return 1
    deep = deep_with(parts[-1], deeps)
    for part in parts[:-1][::-1]:
        deep = 1 + max(deep, deep_with(part, deeps))
    return deep


def _need_small(words, deep):
    if words > MOST_FACT_WORDS:
        raise TooGreat(MOST_FACT_WORDS)
    if deep > MOST_FACT_DEEP:
        raise TooGreat(MOST_FACT_DEEP)


def readings_of(saying):
    """Return the list of the Readings of all rows of choices, with the errors of form_of."""
    readings = [Reading(row) for row in rows_in_shape(saying)]
    words = sum([reading.fact_words() for reading in readings])
    _need_small(words, max([reading.fact_deep() for reading in readings]))
    return readings


def form_of(saying):
    """Return the form that is read off the saying."""
    return tuple([reading.clause() for reading in readings_of(saying)])


def facts_of(saying, number):
    """Return the tuple of eight facts that the letters become in the row with this number."""
    reading = Reading(numbered_row(saying, number))
    _need_small(sum(reading.letter_words()), max(reading.letter_deeps()))
    return reading.letter_facts()


def kept_worlds(web, saying):
    """Return the ascending tuple of the worlds at which the saying's form holds."""
    need_web(web)
    return form_worlds(web, form_of(saying))


def same_forms(saying, other):
    """Return whether both sayings have one form, word for word."""
    need_saying(saying)
    need_saying(other)
    return form_of(saying) == form_of(other)
