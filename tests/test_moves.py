"""Point 29: the ten moves."""

import random
import unittest

from anymarks.errors import BadLot, BadParameter, TooGreat
from anymarks.inward import inward
from anymarks.lots import lot_keeps, moved, moves_at, need_lot
from tests.helpers import (
    NO, P, Q, R, WAYS, YES, OddText, OddTuple, Refusals, Touchy, chain, lot_by, marking_by, no_numbers, no_tuples,
    plain_deep, plain_words, plainly_kept_lot, small_webs,
)
from tests.test_lots import term_of_words

HERE = [("here", place) for place in range(8)]
WORDS = ("carry", "cut", "inward", "left", "lift", "over", "right", "trim", "turn", "under")
FINE = (P, YES)
S, T, U = ("some", 1, P), ("not", Q), ("and", P, R)


def plain_inward(term, beneath=False):
    """A term turned inward, as points 4 and 29 of the document tell it."""
    word = term[0]
    if word in ("letter", "here"):
        return ("not", term) if beneath else term
    if word == "not":
        return plain_inward(term[1], not beneath)
    if word == "gives":
        return plain_inward(("or", ("not", term[1]), term[2]), beneath)
    turn = {"yes": "no", "no": "yes", "and": "or", "or": "and", "each": "some", "some": "each"}
    return (turn[word] if beneath else word, *[
        plain_inward(part, beneath) if isinstance(part, tuple) else part for part in term[1:]])


def plain_move(line, word):
    """What a line becomes as the table of point 29 tells it, None where the word does not fit."""
    first, second = line
    if word == "under" and second[0] == "each":
        return [(("some", -1 - second[1], first), second[2])]
    if word == "over" and first[0] == "some":
        return [(first[2], ("each", -1 - first[1], second))]
    if word == "cut" and second[0] == "or":
        return [(("and", first, ("not", second[1])), second[2])]
    if word == "trim" and second[0] == "or":
        return [(("and", first, ("not", second[2])), second[1])]
    if word == "lift" and first[0] == "and":
        return [(first[1], ("or", ("not", first[2]), second))]
    if word == "carry" and first[0] == "and":
        return [(first[2], ("or", ("not", first[1]), second))]
    if word == "right" and second[0] == "and":
        return [(first, second[1]), (first, second[2])]
    if word == "left" and first[0] == "or":
        return [(first[1], second), (first[2], second)]
    if word == "turn":
        return [(("not", second), ("not", first))]
    if word == "inward":
        return [(plain_inward(first), plain_inward(second))]
    return None


def lines_for_each_move():
    """For each move a line that it alone fits, beside "turn" and "inward"."""
    return (
        ("under", (S, ("each", 1, T))), ("over", (("some", -2, S), T)), ("right", (S, ("and", T, U))),
        ("left", (("or", S, T), U)), ("turn", (P, T)), ("inward", (P, ("gives", P, Q))),
    )


class TestTheTable(Refusals, unittest.TestCase):
    def test_what_lines_become(self):
        for line, word, told in (
                ((S, ("each", 0, T)), "under", ((("some", -1, S), T),)),
                ((S, ("each", -3, T)), "under", ((("some", 2, S), T),)),
                ((("some", 0, S), T), "over", ((S, ("each", -1, T)),)),
                ((("some", -2, S), T), "over", ((S, ("each", 1, T)),)),
                ((S, ("or", T, U)), "cut", ((("and", S, ("not", T)), U),)),
                ((S, ("or", T, U)), "trim", ((("and", S, ("not", U)), T),)),
                ((("and", S, T), U), "lift", ((S, ("or", ("not", T), U)),)),
                ((("and", S, T), U), "carry", ((T, ("or", ("not", S), U)),)),
                ((S, ("and", T, U)), "right", ((S, T), (S, U))),
                ((("or", S, T), U), "left", ((S, U), (T, U))),
                ((S, T), "turn", ((("not", T), ("not", S)),)),
                ((("not", ("and", HERE[1], P)), ("gives", HERE[0], ("not", HERE[2]))), "inward",
                 ((("or", ("not", HERE[1]), ("not", P)), ("or", ("not", HERE[0]), ("not", HERE[2]))),)),
                ((("not", ("not", HERE[3])), ("not", YES)), "inward", ((HERE[3], NO),)),
                ((("not", ("each", 2, HERE[0])), ("not", ("some", -1, Q))), "inward",
                 ((("some", 2, ("not", HERE[0])), ("each", -1, ("not", Q))),))):
            self.assertEqual(moved((line,), 0, word), told, word)
            self.assertEqual(moved((FINE, line, (Q, Q)), 1, word), (FINE, *told, (Q, Q)))
            self.assertEqual(moved(word=word, place=1, lot=(FINE, line)), (FINE, *told))
            self.assertEqual(moved((line, FINE), 0, word), (*told, FINE))

    def test_as_the_table_tells(self):
        chance = random.Random(171)
        fitting = {word: 0 for word in WORDS}
        for _ in range(1200):
            lot = lot_by(chance, 3, 4, 3, 3)
            for place, line in enumerate(lot):
                told = {word: plain_move(line, word) for word in WORDS}
                found = moves_at(lot, place)
                self.plain(found)
                self.assertEqual(found, tuple(word for word in WORDS if told[word]))
                for word in WORDS:
                    if told[word]:
                        fitting[word] += 1
                        result = moved(lot, place, word)
                        self.plain(result)
                        self.assertIs(need_lot(result), result)
                        self.assertEqual(result, lot[:place] + tuple(told[word]) + lot[place + 1:])
                    else:
                        self.no_row(moved, lot, place, word)
        self.assertGreater(min(fitting.values()), 100)

    def test_sayings_are_turned_inward_alike(self):
        chance = random.Random(172)
        for _ in range(200):
            for line in lot_by(chance, 3, 4, 3, 1):
                if "here" not in str(line):
                    self.assertEqual(moved((line,), 0, "inward"), ((inward(line[0]), inward(line[1])),))

    def test_kept_exactly_if_the_moved_one_is(self):
        chance = random.Random(173)
        webs = [web for web in small_webs() if web[0] <= 4]
        found = {(word, told): 0 for word in WORDS for told in (True, False)}
        while min(found.values()) < 25:
            web, lot = chance.choice(webs), lot_by(chance, 2, 3)
            if not lot:
                continue
            marking = marking_by(chance, web[0], 2)
            worlds = tuple(chance.randrange(web[0]) for _ in range(2))
            told = plainly_kept_lot(web, lot, marking, worlds)
            place = chance.randrange(len(lot))
            for word in moves_at(lot, place):
                result = moved(lot, place, word)
                found[word, told] += 1
                self.assertIs(plainly_kept_lot(web, result, marking, worlds), told, (web, lot, word))
                self.assertIs(lot_keeps(web, result, marking, worlds), told)


class TestMovesAt(Refusals, unittest.TestCase):
    def test_words_ascending(self):
        for line, told in (
                ((P, Q), ("inward", "turn")), ((S, ("each", 0, T)), ("inward", "over", "turn", "under")),
                ((U, ("or", T, U)), ("carry", "cut", "inward", "lift", "trim", "turn")),
                ((("or", P, Q), ("and", P, Q)), ("inward", "left", "right", "turn")),
                ((("each", 0, P), ("some", 0, P)), ("inward", "turn")), ((NO, HERE[0]), ("inward", "turn")),
                ((("gives", P, Q), ("gives", P, Q)), ("inward", "turn")), ((("not", U), ("not", U)), ("inward", "turn"))):
            self.assertEqual(moves_at((line,), 0), told)
            self.assertEqual(moves_at(place=2, lot=(FINE, FINE, line)), told)

    def test_places(self):
        lot = (FINE, (P, ("each", 0, P)), (P, ("or", P, Q)))
        self.assertIn("under", moves_at(lot, 1))
        self.assertIn("cut", moves_at(lot, 2))
        self.assertEqual(moved(lot, 2, "turn")[:2], lot[:2])
        self.assertEqual(moved(lot, 0, "turn")[1:], lot[1:])
        for value in [*no_numbers(), -1, 3, 10 ** 30]:
            self.refused(BadParameter, "value", value, moves_at, lot, value)
            self.refused(BadParameter, "value", value, moved, lot, value, "turn")
            self.refused(BadParameter, "value", value, moved, lot, value, Touchy())
        for value in (0, -1, 1, None):
            self.refused(BadParameter, "value", value, moves_at, (), value)
            self.refused(BadParameter, "value", value, moved, (), value, "turn")


class TestRefusals(Refusals, unittest.TestCase):
    def test_the_lot_comes_first(self):
        for value in no_tuples():
            if type(value) is not tuple or not value:
                self.refused(BadLot, "place", (), moves_at, value, Touchy())
                self.refused(BadLot, "place", (), moved, value, Touchy(), Touchy())
        self.refused(BadLot, "place", (0, 1), moved, ((P, HERE),), 5, 5)
        self.refused(BadLot, "place", (0, 0), moves_at, ((("here", 8), P),), 5)
        self.refused(BadLot, "place", (), moved, (FINE,) * 31, 5, 5)
        self.refused(TooGreat, "most", 2000, moved, ((term_of_words(2000), P),), 5, 5)
        self.refused(TooGreat, "most", 100, moves_at, ((chain(101), P),), 5)

    def test_words(self):
        for value in [
                *no_tuples(), (), "", "Under", "turn ", "least", "greatest", "each", b"turn", OddText("turn"),
                ("turn",), OddTuple(("turn",)), ["turn"]]:
            self.refused(BadParameter, "value", value, moved, (FINE,), 0, value)
            self.refused(BadParameter, "value", value, moved, (FINE, (P, ("each", 0, P))), 1, value)

    def test_words_that_do_not_fit(self):
        for fits, line in lines_for_each_move():
            for word in WORDS:
                if plain_move(line, word) is None:
                    self.no_row(moved, (FINE, line), 1, word)
                else:
                    moved((FINE, line), 1, word)
            self.assertIn(fits, moves_at((line,), 0))

    def test_thirty_lines(self):
        for word, line in (("right", (P, ("and", P, Q))), ("left", (("or", P, Q), P))):
            self.assertEqual(len(moved((line,) * 29, 28, word)), 30)
            self.refused(TooGreat, "most", 30, moved, (line,) * 30, 0, word)
            self.assertEqual(len(moved((line,) * 30, 29, "turn")), 30)
            # Ahead of the words and of the depth.
            great = (term_of_words(1850), ("and", P, Q)) if word == "right" else (("or", P, Q), term_of_words(1850))
            self.refused(TooGreat, "most", 30, moved, (great,) + (FINE,) * 29, 0, word)
            self.refused(TooGreat, "most", 2000, moved, (great,) + (FINE,) * 28, 0, word)

    def test_two_thousand_words(self):
        for word, line, more in (
                ("turn", (P, Q), 2), ("cut", (P, ("or", P, Q)), 1), ("trim", (P, ("or", P, Q)), 1),
                ("lift", (("and", P, Q), P), 1), ("carry", (("and", P, Q), P), 1), ("right", (P, ("and", P, Q)), 0),
                ("right", (U, ("and", P, Q)), 2), ("left", (("or", P, Q), U), 2),
                ("inward", (("not", ("and", P, Q)), P), 1), ("inward", (("gives", P, Q), P), 1),
                ("under", (P, ("each", 0, P)), 0), ("over", (("some", 0, P), P), 0)):
            words = plain_words(line[0]) + plain_words(line[1])
            fits = ((P, term_of_words(1999 - words - more)), line)
            self.assertIs(need_lot(fits), fits)
            told = moved(fits, 1, word)
            self.assertEqual(sum(plain_words(term) for one in told for term in one), 2000)
            if more:
                self.refused(TooGreat, "most", 2000, moved, ((P, term_of_words(2000 - words - more)), line), 1, word)

    def test_a_hundred_deep(self):
        deep = chain(99)
        for word, line, told in (
                ("turn", (chain(99), P), True), ("turn", (chain(100), P), False), ("turn", (P, chain(100)), False),
                ("under", (deep, ("each", 0, P)), True), ("under", (chain(100), ("each", 0, P)), False),
                ("over", (("some", 0, P), deep), True), ("over", (("some", 0, P), chain(100)), False),
                ("cut", (deep, ("or", P, P)), True), ("cut", (chain(100), ("or", P, P)), False),
                ("cut", (P, ("or", chain(98), P)), True), ("cut", (P, ("or", deep, P)), False),
                ("trim", (P, ("or", deep, P)), True), ("trim", (P, ("or", P, deep)), False),
                ("lift", (("and", P, P), deep), True), ("lift", (("and", P, P), chain(100)), False),
                ("lift", (("and", P, chain(98)), P), True), ("lift", (("and", P, deep), P), False),
                ("carry", (("and", P, deep), P), True), ("carry", (("and", deep, P), P), False),
                ("right", (chain(100), ("and", P, P)), True), ("left", (("or", deep, P), chain(100)), True),
                ("inward", (chain(100), chain(100)), True),
                ("inward", (("not", tall_or(99)), P), True), ("inward", (("not", tall_or(98)), P), True)):
            need_lot((line,))
            if told:
                result = moved((line,), 0, word)
                self.assertLessEqual(max(plain_deep(term) for one in result for term in one), 100)
            else:
                self.refused(TooGreat, "most", 100, moved, (line,), 0, word)
        # Turned inward, what lies beneath a not may become one deeper.
        self.assertEqual(plain_deep(moved(((("not", tall_or(99)), P),), 0, "inward")[0][0]), 100)
        self.refused(TooGreat, "most", 100, moved, ((("gives", tall_or(99), P), P),), 0, "turn")
        self.refused(TooGreat, "most", 100, moved, ((("gives", tall_or(99), P), P),), 0, "inward")
        self.refused(TooGreat, "most", 2000, moved, ((chain(100), term_of_words(1899)),), 0, "turn")
        self.refused(TooGreat, "most", 100, moved, ((chain(100), term_of_words(1898)),), 0, "turn")


def tall_or(deep):
    """So deep, a letter at its end."""
    told = P
    for _ in range(deep - 1):
        told = ("some", WAYS[deep % 6], told)
    return told


if __name__ == "__main__":
    unittest.main()
