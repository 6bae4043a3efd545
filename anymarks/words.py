"""Words: what sayings, facts and terms are made of, and how they are gone through.

Each word is a tuple that begins with a text; of its other items those are tuples, too,
that are its parts.
"""

from anymarks.errors import TooGreat
from anymarks.webs import FIRST_WAY, LAST_KIND

LETTERS = 8


class Walk:
    """A walk through one value after the other, all things met being counted on.

    Sayings and terms are denying: "not" and "gives" may stand in them.
    """

    def __init__(self, letters, denying, most_deep, most_words):
        self.letters = letters
        self.denying = denying
        self.most_deep = most_deep
        self.most_words = most_words
        self.met = 0

    def wrong_path(self, value, heres):
        """Return the path of the first thing that is wrong in itself, None without one.

        "here" may stand with the numbers below heres.
        """
        numbers = {"letter": self.letters, "here": heres}
        met = self._met_if_right(value, numbers)
        if met is None:
            return self._first_wrong(value, numbers)
        self.met = met
        return None

    def _met_if_right(self, value, numbers):
        """Return how many things are met up to the end of the value, None if anything is wrong.

        Level by level, as no path is told: that is many times faster.
        """
        met = self.met
        deep = 0
        level = [value]
        while level:
            deep = deep + 1
            met = met + len(level)
            if deep > self.most_deep or met > self.most_words:
                return None
            level = _parts_if_right(level, numbers, self.denying)
        return None if level is None else met

    def _first_wrong(self, value, numbers):
        waiting = [((), value)]
        while waiting:
            path, thing = waiting.pop()
            self.met = self.met + 1
            if len(path) >= self.most_deep:
                raise TooGreat(self.most_deep)
            if self.met > self.most_words:
                raise TooGreat(self.most_words)
            parts = _parts_if_right([thing], numbers, self.denying)
            if parts is None:
                return path
            first = len(thing) - len(parts)
            further = [(path + (first + index,), part) for index, part in enumerate(parts)]
            # The last one that waits is met next: so the parts are met from the left.
            waiting.extend(further[::-1])
        return None


def _parts_if_right(things, numbers, denying):
    """Return the list of the parts of some things, None if one of these is wrong in itself."""
    parts = []
    for thing in things:
        if type(thing) is not tuple or not thing or type(thing[0]) is not str:
            return None
        word = thing[0]
        many = len(thing)
        if many == 3 and (word == "each" or word == "some"):
            if type(thing[1]) is not int or not FIRST_WAY <= thing[1] <= LAST_KIND:
                return None
            parts.append(thing[2])
        elif many == 3 and (word == "and" or word == "or" or (word == "gives" and denying)):
            parts.append(thing[1])
            parts.append(thing[2])
        elif many == 2 and word == "not" and denying:
            parts.append(thing[1])
        elif many == 2 and word in numbers:
            if type(thing[1]) is not int or not 0 <= thing[1] < numbers[word]:
                return None
        elif many != 1 or word not in ("yes", "no"):
            return None
    return parts


def levels_of(saying):
    """Return the list of the levels of the words: the whole alone, its parts, their parts, .."""
    levels = []
    level = [saying]
    while level:
        levels.append(level)
        level = [part for word in level for part in word if type(part) is tuple]
    return levels


def words_of(saying):
    """Return the list of all words, level by level."""
    return [word for level in levels_of(saying) for word in level]


def deep_of(saying):
    """Return how deep a saying, fact or term is."""
    return len(levels_of(saying))


def size_of(saying):
    """Return (WORDS, DEEP) of a saying, fact or term."""
    levels = levels_of(saying)
    return (sum([len(level) for level in levels]), len(levels))


def size_with(saying, sizes):
    """Return (WORDS, DEEP) of a saying with something of the size sizes[I] for each letter I."""
    word = saying[0]
    if word == "letter":
        return sizes[saying[1]]
    if len(saying) < 3 and word != "not":
        return (1, 1)
    words, deep = size_with(saying[-1], sizes)
    if len(saying) < 3 or word == "each" or word == "some":
        return (words + 1, deep + 1)
    more, deeper = size_with(saying[1], sizes)
    return (words + more + 1, max(deep, deeper) + 1)


def joined_size(sizes):
    """Return (WORDS, DEEP) of what has these sizes, put together to the right."""
    words, deep = sizes[-1]
    for more, deeper in sizes[-2::-1]:
        words = words + more + 1
        deep = max(deep, deeper) + 1
    return (words, deep)


def letters_of(sayings):
    """Return the ascending tuple of the letters that stand in some sayings."""
    words = [word for saying in sayings for word in words_of(saying)]
    return tuple(sorted({word[1] for word in words if word[0] == "letter"}))


def replaced(saying, word, table):
    """Return a saying, fact or term with table[I] in the stead of each (word, I)."""
    outer = saying[0]
    if outer == word:
        return table[saying[1]]
    if len(saying) < 3:
        return (outer, replaced(saying[1], word, table)) if outer == "not" else saying
    if outer == "each" or outer == "some":
        return (outer, saying[1], replaced(saying[2], word, table))
    return (outer, replaced(saying[1], word, table), replaced(saying[2], word, table))


def joined(word, things):
    """Return one or several things put together by the word, "and" or "or", to the right."""
    told = things[-1]
    for thing in things[-2::-1]:
        told = (word, thing, told)
    return told
