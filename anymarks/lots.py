"""Terms, lines and lots: what letters are asked to keep, and the moves of lines."""

from anymarks.basics import is_number, is_tuple
from anymarks.errors import BadLot, BadParameter, BadSaying, NoRow, TooGreat
from anymarks.forms import MOST_PLACES
from anymarks.inward import turned
from anymarks.sayings import Cases, marked_where, marks_of, need_marking
from anymarks.shapes import numbered_row
from anymarks.webs import leads_of, need_web, turned_way
from anymarks.words import LETTERS, Walk, size_of, words_of

MOST_LINES = 30
MOST_TERM_WORDS = 2000
MOST_TERM_DEEP = 100

# The words of the moves, ascending, with the outermost words of the first and of the
# second term of the lines that they fit; None where each word will do.
MOVES = (
    ("carry", "and", None), ("cut", None, "or"), ("inward", None, None), ("left", "or", None),
    ("lift", "and", None), ("over", "some", None), ("right", None, "and"), ("trim", None, "or"),
    ("turn", None, None), ("under", None, "each"),
)


def need_term(value):
    """Return the term; for any other value the first error on the walk through it."""
    path = _term_walk().wrong_path(value, MOST_PLACES)
    if path is not None:
        raise BadSaying(path)
    return value


def _term_walk():
    return Walk(LETTERS, True, MOST_TERM_DEEP, MOST_TERM_WORDS)


def need_lot(value):
    """Return the lot; for any other value the first error, thing by thing."""
    return read_lot(value).told()


def read_lot(value):
    """Return the Lot of a lot, with the errors of need_lot."""
    if not is_tuple(value, 0, MOST_LINES):
        raise BadLot(())
    walk = _term_walk()
    words = []
    for number, line in enumerate(value):
        if not is_tuple(line, 2, 2):
            raise BadLot((number,))
        ahead = walk.met
        for side, term in enumerate(line):
            if walk.wrong_path(term, MOST_PLACES) is not None:
                raise BadLot((number, side))
        words.append(walk.met - ahead)
    return Lot(value, words)


class Lot:
    """A lot that is changed step by step: all words are counted once, then those of new lines alone.

    words has for each line how many words its terms have.
    """

    def __init__(self, lines, words):
        self.lines = lines
        self.words = words

    def told(self):
        """Return the lot."""
        return self.lines

    def need_place(self, place):
        """BadParameter unless there is a line with this index."""
        if not is_number(place, 0, len(self.lines) - 1):
            raise BadParameter(place)

    def moves_at(self, place):
        """Return the ascending tuple of the words that fit the line with this index."""
        first, second = self.lines[place]
        return tuple([
            word for word, before, behind in MOVES
            if before in (None, first[0]) and behind in (None, second[0])
        ])

    def move(self, place, word):
        """Do a move; NoRow if it does not fit, TooGreat if the result is no lot."""
        if word not in self.moves_at(place):
            raise NoRow()
        told = _moved_line(self.lines[place], word)
        sizes = [line_size(line) for line in told]
        words = self.words[:place] + [many for many, _ in sizes] + self.words[place + 1:]
        need_room(words, max([deep for _, deep in sizes]))
        self.take(self.lines[:place] + told + self.lines[place + 1:], words)

    def take(self, lines, words):
        """Take other lines, and how many words they have."""
        self.lines = lines
        self.words = words


def line_size(line):
    """Return (WORDS, DEEP) of a line: of both terms in all, and of the deeper one."""
    words, deep = size_of(line[0])
    more, deeper = size_of(line[1])
    return (words + more, max(deep, deeper))


def need_room(words, deep):
    """TooGreat unless lines of so many words each, the new ones so deep, are a lot."""
    if len(words) > MOST_LINES:
        raise TooGreat(MOST_LINES)
    if sum(words) > MOST_TERM_WORDS:
        raise TooGreat(MOST_TERM_WORDS)
    if deep > MOST_TERM_DEEP:
        raise TooGreat(MOST_TERM_DEEP)


def is_move(value):
    """Tell whether the value is the word of a move."""
    return type(value) is str and value in [word for word, _, _ in MOVES]


def _moved_line(line, word):
    """Return the tuple of the one or two lines that a line becomes by a move that fits it."""
    first, second = line
    if word == "under":
        return ((("some", turned_way(second[1]), first), second[2]),)
    if word == "over":
        return ((first[2], ("each", turned_way(first[1]), second)),)
    if word == "cut":
        return ((("and", first, ("not", second[1])), second[2]),)
    if word == "trim":
        return ((("and", first, ("not", second[2])), second[1]),)
    if word == "lift":
        return ((first[1], ("or", ("not", first[2]), second)),)
    if word == "carry":
        return ((first[2], ("or", ("not", first[1]), second)),)
    if word == "right":
        return ((first, second[1]), (first, second[2]))
    if word == "left":
        return ((first[1], second), (first[2], second))
    if word == "turn":
        return ((("not", second), ("not", first)),)
    return ((turned(first, False), turned(second, False)),)


def lot_keeps(web, lot, marking, worlds):
    """Return whether the lot is kept in the web under the marking, x_0, x_1, .. being worlds."""
    need_web(web)
    need_lot(lot)
    need_marking(web, marking)
    if not _are_places(web, lot, worlds):
        raise BadParameter(worlds)
    heres = [marked_where(web, (world,)) for world in worlds]
    cases = Cases(leads_of(web), marks_of(web, marking), heres, 1)
    return not any([_is_broken(cases, line) for line in lot])


def _are_places(web, lot, value):
    """Tell whether a value is a tuple of worlds with one for each ("here", J) of a lot."""
    if not is_tuple(value, 1, MOST_PLACES):
        return False
    words = [word for line in lot for term in line for word in words_of(term)]
    most = max([word[1] for word in words if word[0] == "here"], default=0)
    return most < len(value) and all([is_number(world, 0, web[0] - 1) for world in value])


def _is_broken(cases, line):
    first, second = [cases.answers(term) for term in line]
    return any([here and not other for here, other in zip(first, second)])


def lot_of(saying, number):
    """Return the lot of a row of choices."""
    return lot_of_row(numbered_row(saying, number)).told()


def lot_of_row(row):
    """Return the Lot of a Row; TooGreat if it is none."""
    lines = [(("here", place), box) for place, box in row.met_boxes()]
    for place, ends in enumerate(row.ends):
        lines.extend([(("here", place), turned(end, True)) for end in ends])
    words = [line_size(line)[0] for line in lines]
    # Neither a box nor an end is much deeper than a saying may be.
    need_room(words, 0)
    return Lot(tuple(lines), words)


def moves_at(lot, place):
    """Return the ascending tuple of the words of the moves that fit the line with this index."""
    held = read_lot(lot)
    held.need_place(place)
    return held.moves_at(place)


def moved(lot, place, word):
    """Return the lot with what the line with this index becomes by the move in its place."""
    held = read_lot(lot)
    held.need_place(place)
    if not is_move(word):
        raise BadParameter(word)
    held.move(place, word)
    return held.told()
