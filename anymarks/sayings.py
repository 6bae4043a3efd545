"""Sayings: their words and letters, and where they hold under a marking."""

from anymarks.basics import are_numbers, is_number, is_tuple
from anymarks.errors import BadLetter, BadMarking, BadParameter, BadSaying, TooGreat
from anymarks.webs import are_worlds, leads_of, need_web, need_world
from anymarks.words import LETTERS, Walk, deep_of, letters_of, replaced, size_of, size_with, words_of

MOST_WORDS = 400
MOST_DEEP = 40


def need_saying(saying):
    """Return the saying; for any other value the first error on the walk through it."""
    path = Walk(LETTERS, True, MOST_DEEP, MOST_WORDS).wrong_path(saying, 0)
    if path is not None:
        raise BadSaying(path)
    return saying


def is_letter(value):
    """Tell whether the value is a letter."""
    return is_number(value, 0, LETTERS - 1)


def words_in(saying):
    """Return how many words the saying has."""
    return len(words_of(need_saying(saying)))


def deep_in(saying):
    """Return how deep the saying is."""
    return deep_of(need_saying(saying))


def letters_in(saying):
    """Return the ascending tuple of the letters that stand in the saying."""
    return letters_of([need_saying(saying)])


def need_marking(web, marking):
    """Return the marking of the web; BadMarking for any other value."""
    need_web(web)
    if not is_tuple(marking, 0, LETTERS) or not all([are_worlds(web, item) for item in marking]):
        raise BadMarking(marking)
    return marking


class Cases:
    """Several cases at once, one for each bit: answers are numbers with the bits of all where it is so.

    leads are those of the web, marks[I] the answers of all worlds whether the letter I
    holds there, heres[J] whether they are x_J; full has the bits of all cases.
    """

    def __init__(self, leads, marks, heres, full):
        self.leads = leads
        self.marks = marks
        self.heres = heres
        self.full = full

    def answers(self, saying):
        """Return the list of all worlds' answers whether the saying, fact or term holds there.

        All worlds are answered at once: so each word is gone through once.
        """
        word = saying[0]
        if word == "letter":
            return self.marks[saying[1]]
        if word == "here":
            return self.heres[saying[1]]
        if len(saying) == 1:
            return [self.full if word == "yes" else 0] * len(self.leads[0])
        if word == "each":
            return _everywhere(self.full, self.leads[saying[1]], self.answers(saying[2]))
        if word == "some":
            return somewhere(self.leads[saying[1]], self.answers(saying[2]))
        first = self.answers(saying[1])
        if word == "not":
            return [self.full ^ here for here in first]
        second = self.answers(saying[2])
        if word == "and":
            return [here & other for here, other in zip(first, second)]
        if word == "or":
            return [here | other for here, other in zip(first, second)]
        return [(self.full ^ here) | other for here, other in zip(first, second)]


def _everywhere(full, rows, inner):
    told = []
    for row in rows:
        found = full
        for there in row:
            found = found & inner[there]
        told.append(found)
    return told


def somewhere(rows, inner):
    """Return for each world the answers that are found at one of the worlds it leads to at least."""
    told = []
    for row in rows:
        found = 0
        for there in row:
            found = found | inner[there]
        told.append(found)
    return told


def marked_where(web, worlds):
    """Return all worlds' answers in one single case: 1 for these worlds, 0 for the others."""
    marks = [0] * web[0]
    for world in worlds:
        marks[world] = 1
    return marks


def worlds_where(answers):
    """Return the ascending tuple of the worlds with an answer other than 0."""
    return tuple([world for world, answer in enumerate(answers) if answer])


def holding(web, marking, saying):
    """Return the ascending tuple of the worlds where the saying holds."""
    need_marking(web, marking)
    need_saying(saying)
    return worlds_where(_answers(web, marking, saying))


def holds(web, marking, saying, world):
    """Return whether the saying holds at the world."""
    need_marking(web, marking)
    need_saying(saying)
    need_world(web, world)
    return _answers(web, marking, saying)[world] == 1


def _answers(web, marking, saying):
    return Cases(leads_of(web), marks_of(web, marking), [], 1).answers(saying)


def marks_of(web, marking):
    """Return for each letter all worlds' answers whether it holds there under a marking."""
    beyond = ((),) * (LETTERS - len(marking))
    return [marked_where(web, worlds) for worlds in marking + beyond]


def put_in(saying, letter, other):
    """Return the saying with the other one in the stead of each ("letter", letter)."""
    need_saying(saying)
    if not is_letter(letter):
        raise BadLetter(letter)
    sizes = [(1, 1)] * LETTERS
    sizes[letter] = size_of(need_saying(other))
    words, deep = size_with(saying, sizes)
    if words > MOST_WORDS:
        raise TooGreat(MOST_WORDS)
    if deep > MOST_DEEP:
        raise TooGreat(MOST_DEEP)
    table = [("letter", index) for index in range(LETTERS)]
    table[letter] = other
    return replaced(saying, "letter", table)


def renamed(saying, letters):
    """Return the saying with letters[I] in the stead of each letter I."""
    need_saying(saying)
    if not are_numbers(letters, LETTERS, 0, LETTERS - 1):
        raise BadParameter(letters)
    return replaced(saying, "letter", [("letter", letter) for letter in letters])
