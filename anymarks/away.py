"""Letters put away from lots, and papers of steps that do so."""

from anymarks.basics import is_number, is_tuple
from anymarks.errors import BadLetter, BadPaper, BadParameter, MarkError, Stuck, TooGreat
from anymarks.lots import is_move, lot_of_row, need_lot, need_room, read_lot
from anymarks.sayings import is_letter
from anymarks.shapes import numbered_row
from anymarks.words import LETTERS, joined, letters_of, replaced, size_of, size_with, words_of

MOST_STEPS = 400

# For each side the index of the term that is the letter alone in the lines that go, how
# the other terms of these lines are put together, and what there is without any.
SIDES = {"least": (1, "or", "no"), "greatest": (0, "and", "yes")}


def put_away(lot, letter, side):
    """Return the lot without the letter, its least or its greatest marking put in for it."""
    held = read_lot(lot)
    if not is_letter(letter):
        raise BadLetter(letter)
    if not is_side(side):
        raise BadParameter(side)
    put_away_from(held, letter, side)
    return held.told()


def is_side(value):
    """Tell whether the value is the word of a side."""
    return type(value) is str and value in SIDES


def put_away_from(held, letter, side):
    """Put a letter away from a Lot; Stuck if that cannot be done, TooGreat if the result is no lot."""
    own, word, without = SIDES[side]
    alone = ("letter", letter)
    going = [line[1 - own] for line in held.lines if line[own] == alone]
    told = joined(word, going) if going else (without,)
    # Of the lines that stay those without the letter stay as they are.
    staying = [
        (line, words, _has_letter(line, alone))
        for line, words in zip(held.lines, held.words) if line[own] != alone
    ]
    if alone in words_of(told) or any([has and _is_against(line, own, alone) for line, _, has in staying]):
        raise Stuck(letter)
    sizes = [(1, 1)] * LETTERS
    sizes[letter] = size_of(told)
    found = [_line_size_with(line, sizes) if has else (words, 0) for line, words, has in staying]
    words = [many for many, _ in found]
    need_room(words, max([deep for _, deep in found], default=0))
    table = [("letter", other) for other in range(LETTERS)]
    table[letter] = told
    held.take(tuple([_line_with(line, table) if has else line for line, _, has in staying]), words)


def _has_letter(line, alone):
    return alone in words_of(line[0]) or alone in words_of(line[1])


def _line_size_with(line, sizes):
    words, deep = size_with(line[0], sizes)
    more, deeper = size_with(line[1], sizes)
    return (words + more, max(deep, deeper))


def _line_with(line, table):
    return (replaced(line[0], "letter", table), replaced(line[1], "letter", table))


def _is_against(line, own, alone):
    """Tell whether a line that stays may be lost by the marking that keeps those that go."""
    return _stands(line[own], alone, True) or _stands(line[1 - own], alone, False)


def _stands(term, alone, evenly):
    """Tell whether a letter stands in a term beneath an even number of nots, or an odd one."""
    here, other = ([term], []) if evenly else ([], [term])
    while here or other:
        if alone in here:
            return True
        here, other = _kept_parts(here) + _denied_parts(other), _kept_parts(other) + _denied_parts(here)
    return False


def _kept_parts(words):
    """Return the list of those parts of words that lie beneath as many nots as these."""
    kept = [word[2:] if word[0] == "gives" else word for word in words if word[0] != "not"]
    return [part for word in kept for part in word if type(part) is tuple]


def _denied_parts(words):
    """Return the list of those parts of words that lie beneath one not more."""
    return [word[1] for word in words if word[0] == "not" or word[0] == "gives"]


def led_away(lot, paper):
    """Return the lot that the steps of the paper lead to."""
    return _led(read_lot(lot), paper)


def _led(held, paper):
    if not is_tuple(paper, 0, MOST_STEPS):
        raise BadPaper(())
    for number, step in enumerate(paper):
        if not _goes(held, step):
            raise BadPaper((number,))
    return held.told()


def _goes(held, step):
    """Do a step with a Lot; tell whether it is a step and fits."""
    if not is_tuple(step, 2, 2):
        return False
    word, number = step
    if is_side(word):
        return is_letter(number) and _goes_away(held, number, word)
    if not is_move(word) or not is_number(number, 0, len(held.lines) - 1):
        return False
    if word not in held.moves_at(number):
        return False
    held.move(number, word)
    return True


def _goes_away(held, letter, side):
    try:
        put_away_from(held, letter, side)
    except Stuck:
        return False
    return True


def is_away_paper(lot, goal, value):
    """Return whether the value is a paper that leads from the lot to the very goal."""
    held = read_lot(lot)
    need_lot(goal)
    try:
        return _led(held, value) == goal
    except MarkError:
        return False


def away(saying, number, letters):
    """Return (GOAL, PAPER): the lot of a row of choices with all letters put away in this order."""
    row = numbered_row(saying, number)
    row.letters_in_order()
    held = lot_of_row(row)
    if not _are_all_letters(held, letters):
        raise BadParameter(letters)
    paper = []
    for letter in letters:
        lines = held.lines
        for place, line in enumerate(lines):
            # What a step makes of a bar is a bar again or the letter: so each line is gone to once.
            for word in _bar_words(line[1], letter):
                _do_next(held, paper, (word, place))
        _do_next(held, paper, ("least", letter))
    return (held.told(), tuple(paper))


def _are_all_letters(held, value):
    """Tell whether a value is a tuple with each letter that stands in a Lot, each once."""
    if not is_tuple(value, 0, LETTERS) or not all([is_letter(letter) for letter in value]):
        return False
    return tuple(sorted(value)) == letters_of([term for line in held.lines for term in line])


def _bar_words(term, letter):
    """Return the list of the moves that lay a bar of the letter bare, none for what is no bar."""
    alone = ("letter", letter)
    words = []
    while term != alone:
        if term[0] == "each":
            words.append("under")
            term = term[2]
        elif term[0] == "or" and alone not in words_of(term[1]):
            words.append("cut")
            term = term[2]
        elif term[0] == "or" and alone not in words_of(term[2]):
            words.append("trim")
            term = term[1]
        else:
            return []
    return words


def _do_next(held, paper, step):
    """Do a step of a paper that is being written."""
    if len(paper) == MOST_STEPS:
        raise TooGreat(MOST_STEPS)
    _goes(held, step)
    paper.append(step)
