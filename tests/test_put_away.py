"""Point 30: one letter put away from a lot."""

import random
import unittest

from anymarks.away import put_away
from anymarks.errors import BadLetter, BadLot, BadParameter, Stuck, TooGreat
from anymarks.lots import lot_keeps, need_lot
from tests.helpers import (
    NO, P, Q, R, YES, OddInteger, OddText, Refusals, Touchy, all_markings, halved, lot_by, marking_by,
    no_numbers, no_tuples, plain_deep, plain_term_letters, plain_words, plainly_kept_lot, plainly_term_holds,
    small_webs, somes,
)
from tests.test_lots import term_of_words

HERE = [("here", place) for place in range(8)]
FINE = (Q, YES)


def plain_signs(term, letter, even=True):
    """The set of the signs, True for positively, with which a letter stands in a term."""
    if term == ("letter", letter):
        return {even}
    if term[0] == "not":
        return plain_signs(term[1], letter, not even)
    if term[0] == "gives":
        return plain_signs(term[1], letter, not even) | plain_signs(term[2], letter, even)
    return set().union(*[plain_signs(part, letter, even) for part in term if isinstance(part, tuple)])


def plain_put_in(term, letter, told):
    if term == ("letter", letter):
        return told
    return tuple(plain_put_in(part, letter, told) if isinstance(part, tuple) else part for part in term)


def plainly_away(lot, letter, side):
    """The lot and C as point 30 tells them, "stuck" in the place of the lot if it cannot be done."""
    alone = ("letter", letter)
    own = 1 if side == "least" else 0
    gone = [line[1 - own] for line in lot if line[own] == alone]
    stay = [line for line in lot if line[own] != alone]
    told = (NO if side == "least" else YES) if not gone else gone[-1]
    for term in gone[-2::-1]:
        told = ("or" if side == "least" else "and", term, told)
    if plain_signs(told, letter):
        return "stuck", told
    for first, second in stay:
        lower, upper = plain_signs(first, letter), plain_signs(second, letter)
        if side == "least" and (False in lower or True in upper):
            return "stuck", told
        if side == "greatest" and (True in lower or False in upper):
            return "stuck", told
    return tuple((plain_put_in(first, letter, told), plain_put_in(second, letter, told)) for first, second in stay), told


class TestPutAway(Refusals, unittest.TestCase):
    def test_least(self):
        for lot, told in (
                ((), ()), ((FINE,), (FINE,)), (((HERE[0], P),), ()), (((P, P),), "stuck"),
                (((HERE[0], P), (P, Q)), ((HERE[0], Q),)), (((P, Q), (HERE[0], P)), ((HERE[0], Q),)),
                (((HERE[0], P), (Q, P), (R, P), (P, NO)), ((("or", HERE[0], ("or", Q, R)), NO),)),
                (((P, Q),), ((NO, Q),)), (((Q, ("not", P)),), ((Q, ("not", NO)),)),
                (((HERE[0], P), (Q, ("not", ("some", 0, P)))), ((Q, ("not", ("some", 0, HERE[0]))),)),
                (((HERE[0], P), (Q, ("gives", P, Q))), ((Q, ("gives", HERE[0], Q)),)),
                (((HERE[0], P), (("gives", Q, P), Q)), ((("gives", Q, HERE[0]), Q),)),
                (((HERE[0], P), (("gives", P, Q), Q)), "stuck"), (((HERE[0], P), (Q, ("gives", Q, P))), "stuck"),
                (((HERE[0], P), (("not", P), Q)), "stuck"), (((HERE[0], P), (Q, ("each", 0, P))), "stuck"),
                (((("some", 0, P), P),), "stuck"), (((("not", P), P),), "stuck"),
                (((HERE[0], P), (("not", ("not", P)), ("not", P))), ((("not", ("not", HERE[0])), ("not", HERE[0])),)),
                (((HERE[0], P), (("and", P, ("not", P)), Q)), "stuck")):
            self.ask(lot, 0, "least", told)

    def test_greatest(self):
        for lot, told in (
                ((), ()), ((FINE,), (FINE,)), (((P, HERE[0]),), ()), (((P, P),), "stuck"),
                (((P, HERE[0]), (Q, P)), ((Q, HERE[0]),)), (((Q, P), (P, HERE[0])), ((Q, HERE[0]),)),
                (((P, HERE[0]), (P, Q), (P, R), (YES, P)), ((YES, ("and", HERE[0], ("and", Q, R))),)),
                (((Q, P),), ((Q, YES),)), (((("not", P), Q),), ((("not", YES), Q),)),
                (((P, HERE[0]), (("gives", P, Q), Q)), ((("gives", HERE[0], Q), Q),)),
                (((P, HERE[0]), (Q, ("gives", Q, P))), ((Q, ("gives", Q, HERE[0])),)),
                (((P, HERE[0]), (("gives", Q, P), Q)), "stuck"), (((P, HERE[0]), (Q, ("gives", P, Q))), "stuck"),
                (((P, HERE[0]), (Q, ("not", P))), "stuck"), (((P, HERE[0]), (("some", 0, P), Q)), "stuck"),
                (((P, ("each", 0, P)),), "stuck"),
                (((P, HERE[0]), (("not", P), ("not", ("not", P)))), ((("not", HERE[0]), ("not", ("not", HERE[0]))),))):
            self.ask(lot, 0, "greatest", told)

    def ask(self, lot, letter, side, told):
        if told == "stuck":
            self.refused(Stuck, "letter", letter, put_away, lot, letter, side)
        else:
            self.assertEqual(put_away(lot, letter, side), told, (lot, side))
            self.assertEqual(put_away(side=side, letter=letter, lot=lot), told)

    def test_other_letters_stay(self):
        lot = ((HERE[0], Q), (Q, ("letter", 7)), (P, ("not", Q)))
        self.assertEqual(put_away(lot, 1, "least"), ((HERE[0], ("letter", 7)), (P, ("not", HERE[0]))))
        self.assertEqual(put_away(lot, 7, "greatest"), ((HERE[0], Q), (Q, YES), (P, ("not", Q))))
        self.assertEqual(put_away(lot, 5, "least"), lot)

    def test_as_the_document_tells(self):
        chance = random.Random(181)
        found = {True: 0, False: 0}
        for _ in range(4000):
            lot, letter = lot_by(chance, 4, 3), chance.randrange(2)
            for side in ("least", "greatest"):
                told, _ = plainly_away(lot, letter, side)
                found[told == "stuck"] += 1
                self.ask(lot, letter, side, told)
                if told != "stuck":
                    result = put_away(lot, letter, side)
                    self.plain(result)
                    self.assertIs(need_lot(result), result)
                    self.assertNotIn(letter, plain_term_letters(result))
        self.assertGreater(min(found.values()), 1000)


class TestAckermann(unittest.TestCase):
    """The letter can be marked so that the lot is kept exactly if the told lot is kept."""

    def test_over_all_markings(self):
        chance = random.Random(182)
        webs = [web for web in small_webs() if web[0] <= 3]
        found = {(side, told): 0 for side in ("least", "greatest") for told in (True, False)}
        while min(found.values()) < 150:
            web, lot = chance.choice(webs), lot_by(chance, 3, 3)
            for side in ("least", "greatest"):
                result, told = plainly_away(lot, 0, side)
                if result == "stuck" or not lot:
                    continue
                others = marking_by(chance, web[0], 2)
                worlds = tuple(chance.randrange(web[0]) for _ in range(2))
                kept = lot_keeps(web, put_away(lot, 0, side), others, worlds)
                good = [
                    set(marks) for (marks,) in all_markings(web[0], 1)
                    if plainly_kept_lot(web, lot, (marks, *others[1:]), worlds)
                ]
                found[side, kept] += 1
                self.assertIs(bool(good), kept, (web, lot, side))
                self.best(web, lot, side, others, worlds, told, good)

    def best(self, web, lot, side, others, worlds, told, good):
        """Where it can be marked it can be so at C: the least or greatest one that keeps the lines that go."""
        own = 1 if side == "least" else 0
        going = [line for line in lot if line[own] == ("letter", 0)]
        there = {world for world in range(web[0]) if plainly_term_holds(web, others, worlds, told, world)}
        if good:
            self.assertIn(there, good)
        keeping = [
            set(marks) for (marks,) in all_markings(web[0], 1)
            if plainly_kept_lot(web, going, (marks, *others[1:]), worlds)
        ]
        self.assertIn(there, keeping)
        for marks in keeping:
            self.assertTrue(there <= marks if side == "least" else marks <= there)


class TestRefusals(Refusals, unittest.TestCase):
    def test_wrong_inputs(self):
        stuck = ((P, P),)
        for value in no_tuples():
            if type(value) is not tuple or not value:
                self.refused(BadLot, "place", (), put_away, value, 9, "none")
        self.refused(BadLot, "place", (0, 1), put_away, ((P, ("here", 8)),), Touchy(), Touchy())
        self.refused(TooGreat, "most", 2000, put_away, ((P, term_of_words(2000)),), 9, 9)
        for value in [*no_numbers(), -1, 8, 10 ** 30, OddInteger(3)]:
            self.refused(BadLetter, "value", value, put_away, stuck, value, "least")
            self.refused(BadLetter, "value", value, put_away, (), value, Touchy())
        for value in [
                *no_tuples(), (), "", "Least", "most", "leas", "under", "turn", b"least", OddText("least"), ("least",), 0]:
            self.refused(BadParameter, "value", value, put_away, stuck, 0, value)
            self.refused(BadParameter, "value", value, put_away, (), 7, value)

    def test_stuck_comes_ahead_of_the_bounds(self):
        great = ((term_of_words(900, HERE[0]), P), (("and", P, ("and", P, P)), Q))
        self.refused(TooGreat, "most", 2000, put_away, great, 0, "least")
        self.refused(Stuck, "letter", 0, put_away, (*great, (Q, P), (Q, ("some", 0, P))), 0, "least")

    def test_two_thousand_words(self):
        for words, uses, fits in ((999, 2, True), (1000, 2, False), (665, 3, True), (666, 3, False), (1996, 1, True)):
            # C has so many words; the uses are put together, and there is a "yes".
            lot = ((term_of_words(words, HERE[0]), P), (halved("and", [P] * uses), YES))
            told = uses * words + uses
            self.assertEqual(fits, told <= 2000)
            if fits:
                result = put_away(lot, 0, "least")
                self.assertEqual(sum(plain_words(term) for line in result for term in line), told)
            else:
                self.refused(TooGreat, "most", 2000, put_away, lot, 0, "least")
        # Lines that go take their words with them.
        lot = ((term_of_words(1990, HERE[0]), P),)
        self.assertEqual(put_away(lot, 0, "least"), ())
        self.assertEqual(put_away(((P, term_of_words(1990, HERE[0])),), 0, "greatest"), ())

    def test_just_two_thousand(self):
        for more, fits in ((0, True), (1, False)):
            lot = ((term_of_words(500, HERE[0]), P), (("and", P, P), ("not", term_of_words(500 + more, Q))),
                   (Q, ("not", term_of_words(496, Q))))
            told = 1 + 1000 + 1 + 500 + more + 1 + 1 + 496
            self.assertEqual(told, 2000 + more)
            if fits:
                self.assertEqual(len(put_away(lot, 0, "least")), 2)
            else:
                self.refused(TooGreat, "most", 2000, put_away, lot, 0, "least")

    def test_a_hundred_deep(self):
        for deep, above, fits in ((50, 50, True), (51, 50, False), (1, 99, True), (2, 98, True),
                                  (99, 1, True), (100, 1, False), (3, 98, False)):
            lot = ((somes(deep - 1, HERE[0]), P), (somes(above, P), YES))
            if fits:
                self.assertEqual(plain_deep(put_away(lot, 0, "least")[0][0]), deep + above)
            else:
                self.refused(TooGreat, "most", 100, put_away, lot, 0, "least")
            other = ((P, somes(deep - 1, HERE[0])), (YES, somes(above, P)))
            if fits:
                self.assertEqual(plain_deep(put_away(other, 0, "greatest")[0][1]), deep + above)
            else:
                self.refused(TooGreat, "most", 100, put_away, other, 0, "greatest")
        # What is not put in anywhere may be as deep as it likes.
        joined = tuple((somes(99, HERE[0]), P) for _ in range(10))
        self.assertEqual(put_away(joined, 0, "least"), ())
        self.assertEqual(put_away((*joined, FINE), 0, "least"), (FINE,))
        self.refused(TooGreat, "most", 100, put_away, (*joined, (P, Q)), 0, "least")
        self.refused(TooGreat, "most", 2000, put_away, (*joined, (("and", P, P), Q), FINE), 0, "least")

    def test_thirty_lines(self):
        lot = tuple((HERE[number % 8], P) for number in range(29)) + ((P, Q),)
        ((told, _),) = put_away(lot, 0, "least")
        self.assertEqual(plain_words(told), 57)
        self.assertEqual(put_away((FINE,) * 30, 0, "least"), (FINE,) * 30)


if __name__ == "__main__":
    unittest.main()
