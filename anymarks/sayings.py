"""Sayings: their words and letters, and where they hold under a marking."""

from anymarks.basics import are_numbers, is_number, is_tuple
from anymarks.errors import BadLetter, BadMarking, BadParameter, BadSaying, TooGreat
from anymarks.webs import are_worlds, is_way, leads_of, need_web, need_world

MOST_WORDS = 400
MOST_DEEP = 40
LETTERS = 8

# How many things a saying with this word is made of, the word among them.
LENGTHS = {
    "letter": 2, "yes": 1, "no": 1, "not": 2, "and": 3, "or": 3, "gives": 3, "each": 3, "some": 3,
}

# From this index on what stands behind the word is sayings.
FIRST_PARTS = {
    "letter": 2, "yes": 1, "no": 1, "not": 1, "and": 1, "or": 1, "gives": 1, "each": 2, "some": 2,
}


def need_saying(saying):
    """Return the saying; for any other value the first error on the walk through it."""
    waiting = [((), saying)]
    met = 0
    while waiting:
        path, thing = waiting.pop()
        met += 1
        if len(path) >= MOST_DEEP:
            raise TooGreat(MOST_DEEP)
        if met > MOST_WORDS:
            raise TooGreat(MOST_WORDS)
        if not _has_form(thing):
            raise BadSaying(path)
        first = FIRST_PARTS[thing[0]]
        parts = [(path + (index,), thing[index]) for index in range(first, len(thing))]
        # The last one that waits is met next: so the parts are met from the left.
        waiting.extend(parts[::-1])
    return saying


def _has_form(thing):
    if not is_tuple(thing, 1, 3) or type(thing[0]) is not str:
        return False
    word = thing[0]
    if LENGTHS.get(word, 0) != len(thing):
        return False
    if word == "letter":
        return is_letter(thing[1])
    return word not in ("each", "some") or is_way(thing[1])


def is_letter(value):
    """Tell whether the value is a letter."""
    return is_number(value, 0, LETTERS - 1)


def parts_of(saying):
    """Return the tuple of the sayings of which a saying is made."""
    return saying[FIRST_PARTS[saying[0]]:]


def words_of(saying):
    """Return the list of the words of a saying, a whole ahead of its parts."""
    words = [saying]
    for part in parts_of(saying):
        words.extend(words_of(part))
    return words


def words_in(saying):
    """Return how many words the saying has."""
    return len(words_of(need_saying(saying)))


def deep_in(saying):
    """Return how deep the saying is."""
    return _deep_with(need_saying(saying), [1] * LETTERS)


def _deep_with(saying, deeps):
    """Return how deep a saying is with something deeps[I] deep for each letter I."""
    if saying[0] == "letter":
        return deeps[saying[1]]
    return 1 + max([_deep_with(part, deeps) for part in parts_of(saying)], default=0)


def letters_in(saying):
    """Return the ascending tuple of the letters that stand in the saying."""
    words = words_of(need_saying(saying))
    return tuple(sorted({word[1] for word in words if word[0] == "letter"}))


def need_marking(web, marking):
    """Return the marking of the web; BadMarking for any other value."""
    need_web(web)
    if not is_tuple(marking, 0, LETTERS) or not all([are_worlds(web, item) for item in marking]):
        raise BadMarking(marking)
    return marking


def holding(web, marking, saying):
    """Return the ascending tuple of the worlds where the saying holds."""
    need_marking(web, marking)
    need_saying(saying)
    answers = _answers(leads_of(web), _marks_of(web, marking), saying)
    return tuple([world for world, here in enumerate(answers) if here])


def holds(web, marking, saying, world):
    """Return whether the saying holds at the world."""
    need_marking(web, marking)
    need_saying(saying)
    need_world(web, world)
    return _answers(leads_of(web), _marks_of(web, marking), saying)[world]


def _marks_of(web, marking):
    """Return for each letter the list of all worlds' answers whether it holds there."""
    marks = [[False] * web[0] for _ in range(LETTERS)]
    for letter, worlds in enumerate(marking):
        for world in worlds:
            marks[letter][world] = True
    return marks


def _answers(leads, marks, saying):
    """Return the list of all worlds' answers whether the saying holds there.

    All worlds are answered at once: so each word is gone through once.
    """
    word = saying[0]
    if word == "letter":
        return marks[saying[1]]
    if word in ("yes", "no"):
        return [word == "yes" for _ in marks[0]]
    inner = [_answers(leads, marks, part) for part in parts_of(saying)]
    if word == "not":
        return [not here for here in inner[0]]
    if word == "each":
        return [all([inner[0][there] for there in row]) for row in leads[saying[1]]]
    if word == "some":
        return [any([inner[0][there] for there in row]) for row in leads[saying[1]]]
    return [_joined(word, first, second) for first, second in zip(inner[0], inner[1])]


def _joined(word, first, second):
    if word == "and":
        return first and second
    if word == "or":
        return first or second
    return not first or second


def put_in(saying, letter, other):
    """Return the saying with the other one in the stead of each ("letter", letter)."""
    words = words_of(need_saying(saying))
    if not is_letter(letter):
        raise BadLetter(letter)
    more = words_in(other) - 1
    if len(words) + more * words.count(("letter", letter)) > MOST_WORDS:
        raise TooGreat(MOST_WORDS)
    deeps = [1] * LETTERS
    deeps[letter] = deep_in(other)
    if _deep_with(saying, deeps) > MOST_DEEP:
        raise TooGreat(MOST_DEEP)
    table = [("letter", index) for index in range(LETTERS)]
    table[letter] = other
    return with_letters(saying, table)


def renamed(saying, letters):
    """Return the saying with letters[I] in the stead of each letter I."""
    need_saying(saying)
    if not are_numbers(letters, LETTERS, 0, LETTERS - 1):
        raise BadParameter(letters)
    return with_letters(saying, [("letter", letter) for letter in letters])


def with_letters(saying, table):
    """Return a saying with table[I] in the stead of each ("letter", I)."""
    if saying[0] == "letter":
        return table[saying[1]]
    ahead = saying[:FIRST_PARTS[saying[0]]]
    return ahead + tuple([with_letters(part, table) for part in parts_of(saying)])
