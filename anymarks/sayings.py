"""Sayings: their words and letters, and where they hold under a marking."""

from anymarks.basics import are_numbers, is_number, is_tuple
from anymarks.errors import BadLetter, BadMarking, BadParameter, BadSaying, TooGreat
from anymarks.webs import are_worlds, is_way, leads_of, need_web, need_world

MOST_WORDS = 400
MOST_DEEP = 40
LETTERS = 8

SAYING_WORDS = ("letter", "yes", "no", "not", "and", "or", "gives", "each", "some")

# How many things a saying with this word is made of, the word among them. Facts,
# which have "here" besides, are gone through as sayings are.
LENGTHS = {
    "letter": 2, "here": 2, "yes": 1, "no": 1, "not": 2,
    "and": 3, "or": 3, "gives": 3, "each": 3, "some": 3,
}

# From this index on what stands behind the word is sayings.
FIRST_PARTS = {
    "letter": 2, "here": 2, "yes": 1, "no": 1, "not": 1,
    "and": 1, "or": 1, "gives": 1, "each": 2, "some": 2,
}


class Walk:
    """A walk through one value after the other, all things met being counted on."""

    def __init__(self, words, most_deep, most_words):
        self.words = words
        self.most_deep = most_deep
        self.most_words = most_words
        self.met = 0

    def wrong_path(self, value, heres):
        """Return the path of the first thing that is wrong in itself, None without one.

        "here" may stand with the numbers below heres.
        """
        waiting = [((), value)]
        while waiting:
            path, thing = waiting.pop()
            self.met += 1
            if len(path) >= self.most_deep:
                raise TooGreat(self.most_deep)
            if self.met > self.most_words:
                raise TooGreat(self.most_words)
            if not _has_form(thing, self.words, heres):
                return path
            first = FIRST_PARTS[thing[0]]
            parts = [(path + (index,), thing[index]) for index in range(first, len(thing))]
            # The last one that waits is met next: so the parts are met from the left.
            waiting.extend(parts[::-1])
        return None


def _has_form(thing, words, heres):
    if not is_tuple(thing, 1, 3) or type(thing[0]) is not str:
        return False
    word = thing[0]
    if word not in words or LENGTHS[word] != len(thing):
        return False
    if word == "letter":
        return is_letter(thing[1])
    if word == "here":
        return is_number(thing[1], 0, heres - 1)
    return word not in ("each", "some") or is_way(thing[1])


def need_saying(saying):
    """Return the saying; for any other value the first error on the walk through it."""
    path = Walk(SAYING_WORDS, MOST_DEEP, MOST_WORDS).wrong_path(saying, 0)
    if path is not None:
        raise BadSaying(path)
    return saying


def is_letter(value):
    """Tell whether the value is a letter."""
    return is_number(value, 0, LETTERS - 1)


def parts_of(saying):
    """Return the tuple of the sayings of which a saying is made."""
    return saying[FIRST_PARTS[saying[0]]:]


def words_of(saying):
    """Return the list of the words of a saying, a whole ahead of its parts."""
    words = [saying]
    for part in parts_of(saying):
        words.extend(words_of(part))
    return words


def words_in(saying):
    """Return how many words the saying has."""
    return len(words_of(need_saying(saying)))


def deep_in(saying):
    """Return how deep the saying is."""
    return deep_with(need_saying(saying), [1] * LETTERS)


def words_with(saying, words):
    """Return how many words a saying has with something of words[I] words for each letter I."""
    return sum([words[word[1]] if word[0] == "letter" else 1 for word in words_of(saying)])


def deep_with(saying, deeps):
    """Return how deep a saying is with something deeps[I] deep for each letter I."""
    if saying[0] == "letter":
        return deeps[saying[1]]
    return 1 + max([deep_with(part, deeps) for part in parts_of(saying)], default=0)


def letters_in(saying):
    """Return the ascending tuple of the letters that stand in the saying."""
    return letters_of([need_saying(saying)])


def letters_of(sayings):
    """Return the ascending tuple of the letters that stand in some sayings."""
    words = [word for saying in sayings for word in words_of(saying)]
    return tuple(sorted({word[1] for word in words if word[0] == "letter"}))


def need_marking(web, marking):
    """Return the marking of the web; BadMarking for any other value."""
    need_web(web)
    if not is_tuple(marking, 0, LETTERS) or not all([are_worlds(web, item) for item in marking]):
        raise BadMarking(marking)
    return marking


class Cases:
    """Several cases at once, one for each bit: answers are numbers with the bits of all where it is so.

    leads are those of the web, marks[I] the answers of all worlds whether the letter I
    holds there, heres[J] whether they are x_J; full has the bits of all cases.
    """

    def __init__(self, leads, marks, heres, full):
        self.leads = leads
        self.marks = marks
        self.heres = heres
        self.full = full

    def answers(self, saying):
        """Return the list of all worlds' answers whether the saying or fact holds there.

        All worlds are answered at once: so each word is gone through once.
        """
        word = saying[0]
        if word == "letter":
            return self.marks[saying[1]]
        if word == "here":
            return self.heres[saying[1]]
        if word in ("yes", "no"):
            return [self.full if word == "yes" else 0] * len(self.leads[0])
        inner = [self.answers(part) for part in parts_of(saying)]
        if word == "each":
            return _everywhere(self.full, self.leads[saying[1]], inner[0])
        if word == "some":
            return _somewhere(self.leads[saying[1]], inner[0])
        if word == "not":
            return [self.full ^ here for here in inner[0]]
        if word == "and":
            return [first & second for first, second in zip(inner[0], inner[1])]
        if word == "or":
            return [first | second for first, second in zip(inner[0], inner[1])]
        return [(self.full ^ first) | second for first, second in zip(inner[0], inner[1])]


def _everywhere(full, rows, inner):
    told = []
    for row in rows:
        found = full
        for there in row:
            found = found & inner[there]
        told.append(found)
    return told


def _somewhere(rows, inner):
    told = []
    for row in rows:
        found = 0
        for there in row:
            found = found | inner[there]
        told.append(found)
    return told


def marked_where(web, worlds):
    """Return all worlds' answers in one single case: 1 for these worlds, 0 for the others."""
    marks = [0] * web[0]
    for world in worlds:
        marks[world] = 1
    return marks


def worlds_where(answers):
    """Return the ascending tuple of the worlds with an answer other than 0."""
    return tuple([world for world, answer in enumerate(answers) if answer])


def holding(web, marking, saying):
    """Return the ascending tuple of the worlds where the saying holds."""
    need_marking(web, marking)
    need_saying(saying)
    return worlds_where(_answers(web, marking, saying))


def holds(web, marking, saying, world):
    """Return whether the saying holds at the world."""
    need_marking(web, marking)
    need_saying(saying)
    need_world(web, world)
    return _answers(web, marking, saying)[world] == 1


def _answers(web, marking, saying):
    beyond = ((),) * (LETTERS - len(marking))
    marks = [marked_where(web, worlds) for worlds in marking + beyond]
    return Cases(leads_of(web), marks, [], 1).answers(saying)


def put_in(saying, letter, other):
    """Return the saying with the other one in the stead of each ("letter", letter)."""
    need_saying(saying)
    if not is_letter(letter):
        raise BadLetter(letter)
    words = [1] * LETTERS
    words[letter] = words_in(other)
    if words_with(saying, words) > MOST_WORDS:
        raise TooGreat(MOST_WORDS)
    deeps = [1] * LETTERS
    deeps[letter] = deep_in(other)
    if deep_with(saying, deeps) > MOST_DEEP:
        raise TooGreat(MOST_DEEP)
    table = [("letter", index) for index in range(LETTERS)]
    table[letter] = other
    return replaced(saying, "letter", table)


def renamed(saying, letters):
    """Return the saying with letters[I] in the stead of each letter I."""
    need_saying(saying)
    if not are_numbers(letters, LETTERS, 0, LETTERS - 1):
        raise BadParameter(letters)
    return replaced(saying, "letter", [("letter", letter) for letter in letters])


def replaced(saying, word, table):
    """Return a saying or fact with table[I] in the stead of each (word, I)."""
    if saying[0] == word:
        return table[saying[1]]
    ahead = saying[:FIRST_PARTS[saying[0]]]
    return ahead + tuple([replaced(part, word, table) for part in parts_of(saying)])


def joined(word, things):
    """Return one or several things put together by the word, "and" or "or", to the right."""
    told = things[-1]
    for thing in things[:-1][::-1]:
        told = (word, thing, told)
    return told
