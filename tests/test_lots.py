"""Point 28: terms, lines and lots."""

import random
import unittest

from anymarks.errors import (
    BadLot, BadMarking, BadParameter, BadSaying, BadWeb, NoShape, TooGreat,
)
from anymarks.inward import turned_about
from anymarks.lots import lot_keeps, lot_of, need_lot, need_term
from anymarks.sayings import holding
from anymarks.shapes import needing_order, row_of
from anymarks.there import form_of
from tests.helpers import (
    LINE, NO, P, Q, YES, OddInteger, OddText, OddTuple, Refusals, Touchy, bush, chain, halved, lot_by, marking_by,
    markings_of, needs, no_numbers, no_tuples, plain_deep, plain_rows, plain_words, plain_world_rows,
    plainly_fact_holds, plainly_holds, plainly_kept_lot, saying_by, shaped_by, small_webs, some_marking_keeps, somes,
    term_by,
)

HERE = [("here", place) for place in range(8)]
LETTERS = [("letter", letter) for letter in range(8)]
LOOP = ("gives", ("each", 0, P), P)
MCKINSEY = ("gives", ("each", 0, ("some", 0, P)), ("some", 0, ("each", 0, P)))
FINE = (P, YES)


def term_of_words(words, end=P):
    """A term of so many words that is not deep."""
    if words <= 2:
        return end if words == 1 else ("not", end)
    first = (words - 1) // 2
    return ("or", term_of_words(first, end), term_of_words(words - 1 - first, end))


def wrong_terms():
    """Values that are no terms in themselves."""
    return [
        *no_tuples(), (), ("letter",), ("letter", 8), ("letter", -1), ("letter", True), ("letter", 0, 0),
        ("here",), ("here", 8), ("here", -1), ("here", False), ("here", OddInteger(1)), ("here", 1.0),
        ("here", 0, 0), ("yes", 0), ("no", P), ("not",), ("not", P, P), ("and", P), ("or", P, P, P), ("gives", P),
        ("each", P), ("each", 3, P), ("each", -4, P), ("each", True, P), ("some", P, 0), ("other",), ("other", P),
        ["yes"], (OddText("letter"), 0), OddTuple(("here", 0)), (0, P), ("",), (("yes",),),
    ]


class TestNeedTerm(Refusals, unittest.TestCase):
    def test_terms(self):
        for term in (
                *HERE, *LETTERS, YES, NO, ("not", HERE[0]), ("gives", HERE[7], P), ("each", -3, HERE[1]),
                ("some", 2, ("and", HERE[0], P)), ("or", YES, HERE[3])):
            self.assertIs(need_term(term), term)
            self.assertIs(need_term(value=term), term)

    def test_all_sayings_are_terms(self):
        chance = random.Random(161)
        for turn in range(300):
            saying = saying_by(chance, 1 + turn % 7)
            self.assertIs(need_term(saying), saying)
            term = term_by(chance, 1 + turn % 7)
            self.assertIs(need_term(term), term)

    def test_paths(self):
        for value in wrong_terms():
            self.refused(BadSaying, "path", (), need_term, value)
            self.refused(BadSaying, "path", (1,), need_term, ("not", value))
            self.refused(BadSaying, "path", (2, 1), need_term, ("gives", HERE[0], ("and", value, value)))
            self.refused(BadSaying, "path", (1, 2), need_term, ("or", ("each", 0, value), value))
        # A whole is wrong ahead of its parts, the left part ahead of the right one.
        self.refused(BadSaying, "path", (), need_term, ("each", 3, ("here", 8)))
        self.refused(BadSaying, "path", (1,), need_term, ("or", ("not",), ("here", 8)))

    def test_a_hundred_deep(self):
        for deep in (40, 41, 99, 100):
            self.assertEqual(plain_deep(chain(deep, HERE[7])), deep)
            need_term(chain(deep, HERE[7]))
        self.refused(TooGreat, "most", 100, need_term, chain(101, HERE[7]))
        self.refused(TooGreat, "most", 100, need_term, chain(101, Touchy()))
        self.refused(BadSaying, "path", (1,) * 99, need_term, chain(100, Touchy()))
        self.refused(TooGreat, "most", 100, need_term, ("and", chain(100), 5))
        self.refused(BadSaying, "path", (1,), need_term, ("and", 5, chain(100)))

    def test_two_thousand_words(self):
        for words in (400, 401, 1999, 2000):
            self.assertEqual(plain_words(term_of_words(words, HERE[1])), words)
            need_term(term_of_words(words, HERE[1]))
        self.refused(TooGreat, "most", 2000, need_term, term_of_words(2001))
        self.refused(TooGreat, "most", 2000, need_term, ("and", term_of_words(1999), 5))
        self.refused(BadSaying, "path", (2,), need_term, ("and", term_of_words(1998), 5))
        # The 2,001st thing is met as the 101st one on its way: the depth is told.
        self.refused(TooGreat, "most", 100, need_term, ("and", term_of_words(1900), chain(100)))
        self.refused(TooGreat, "most", 2000, need_term, ("and", term_of_words(1901), chain(100)))


class TestNeedLot(Refusals, unittest.TestCase):
    def test_lots(self):
        chance = random.Random(162)
        for lot in ((), (FINE,), (FINE,) * 30, ((HERE[7], ("not", HERE[0])),), *[lot_by(chance, 6) for _ in range(100)]):
            self.assertIs(need_lot(lot), lot)
            self.assertIs(need_lot(value=lot), lot)

    def test_no_lots(self):
        for value in no_tuples():
            place = () if type(value) is not tuple or not value else (0,)
            self.refused(BadLot, "place", place, need_lot, value)
            # A pair is wrong by its first term.
            inner = (0,) if type(value) is tuple and len(value) == 2 else ()
            self.refused(BadLot, "place", (0, *inner), need_lot, (value,))
            self.refused(BadLot, "place", (2, *inner), need_lot, (FINE, FINE, value))
        self.refused(BadLot, "place", (), need_lot, (FINE,) * 31)
        self.refused(BadLot, "place", (), need_lot, [FINE])
        for line in ((), (P,), (P, P, P), [P, P], OddTuple((P, P)), "pq", (P, P, 5)):
            self.refused(BadLot, "place", (1,), need_lot, (FINE, line))
        # A term is a pair, but not of terms.
        self.refused(BadLot, "place", (1, 0), need_lot, (FINE, P))

    def test_places_of_terms(self):
        for value in wrong_terms():
            self.refused(BadLot, "place", (0, 0), need_lot, ((value, value),))
            self.refused(BadLot, "place", (0, 1), need_lot, ((P, value), 5))
            self.refused(BadLot, "place", (1, 0), need_lot, (FINE, (("not", value), P)))
            self.refused(BadLot, "place", (2, 1), need_lot, (FINE, FINE, (P, ("and", P, value))))
        # Thing by thing: the terms of a line ahead of the next line.
        self.refused(BadLot, "place", (0, 1), need_lot, ((P, ("here", 8)), 5))
        self.refused(BadLot, "place", (0,), need_lot, (5, (P, ("here", 8))))

    def test_words_are_counted_on(self):
        full = ((term_of_words(1000), term_of_words(500)), (term_of_words(300), term_of_words(200)))
        self.assertIs(need_lot(full), full)
        for lot in (
                (*full, (P, P)), ((term_of_words(2000), P),), ((P, term_of_words(2000)),),
                ((term_of_words(1000), term_of_words(1001)),), ((term_of_words(66), P),) * 30,
                (*full, (5, P))):
            self.refused(TooGreat, "most", 2000, need_lot, lot)
        for lot in (((term_of_words(1999), P),), ((term_of_words(65), P),) * 30):
            self.assertIs(need_lot(lot), lot)
        # A line that is no pair is wrong in itself, its terms are not met.
        self.refused(BadLot, "place", (2,), need_lot, (*full, 5))
        self.refused(BadLot, "place", (1,), need_lot, ((term_of_words(1999), P), (P,)))

    def test_a_hundred_deep(self):
        for lot, place in ((((chain(100), chain(100)),), None), (((chain(101), P),), 0), (((P, chain(101)),), 0)):
            if place is None:
                self.assertIs(need_lot(lot), lot)
            else:
                self.refused(TooGreat, "most", 100, need_lot, lot)
        self.refused(TooGreat, "most", 100, need_lot, ((P, chain(101)), 5))
        self.refused(BadLot, "place", (0, 0), need_lot, ((5, chain(101)),))
        self.refused(TooGreat, "most", 100, need_lot, ((term_of_words(1900), chain(101)),))
        self.refused(TooGreat, "most", 2000, need_lot, ((term_of_words(1901), chain(101)),))


class TestLotKeeps(Refusals, unittest.TestCase):
    def test_lines(self):
        marking = ((1,), (1, 2))
        for line, told in (
                ((P, Q), True), ((Q, P), False), ((P, P), True), ((NO, P), True), ((YES, P), False), ((P, HERE[0]), False),
                ((P, HERE[1]), True), ((HERE[1], P), True), ((HERE[0], P), False), ((HERE[0], ("each", 0, P)), True),
                ((Q, ("some", -1, YES)), True), ((Q, LETTERS[7]), False), ((LETTERS[7], NO), True),
                ((("not", Q), HERE[0]), True), ((HERE[0], ("gives", HERE[0], ("not", Q))), True)):
            self.assertIs(lot_keeps(LINE, (line,), marking, (0, 1)), told, line)
            self.assertIs(lot_keeps(worlds=(0, 1), marking=marking, lot=(FINE, line), web=LINE), told)
        self.assertIs(lot_keeps(LINE, (), (), (0,)), True)
        self.assertIs(lot_keeps(LINE, ((P, Q), (Q, P)), marking, (0,)), False)

    def test_as_the_document_tells(self):
        chance = random.Random(163)
        found = {True: 0, False: 0}
        webs = [web for web in small_webs() if web[0] <= 4]
        for _ in range(1500):
            web, lot = chance.choice(webs), lot_by(chance, 2, 3, 3, 3)
            marking = marking_by(chance, web[0], chance.randint(0, 4))
            worlds = tuple(chance.randrange(web[0]) for _ in range(chance.randint(3, 8)))
            told = plainly_kept_lot(web, lot, marking, worlds)
            found[told] += 1
            self.assertIs(lot_keeps(web, lot, marking, worlds), told, (web, lot, marking, worlds))
        self.assertGreater(min(found.values()), 300)

    def test_sayings_hold_alike(self):
        chance = random.Random(164)
        for web in small_webs()[::5]:
            saying, marking = saying_by(chance, 4), marking_by(chance, web[0], 3)
            kept = lot_keeps(web, ((YES, saying),), marking, (0,))
            self.assertIs(kept, holding(web, marking, saying) == tuple(range(web[0])))

    def test_worlds(self):
        lot = ((HERE[2], HERE[0]),)
        for worlds in ((0, 1, 2), (0, 0, 0), (2, 2, 1, 1, 0, 0, 1, 2)):
            lot_keeps(LINE, lot, (), worlds)
        for worlds in (
                (0, 1), (0,), (), (0, 1, 3), (0, 1, -1), (0, 1, 2, 3), [0, 1, 2], (0, 1, True), (False, 0, 0), (0, 1, 2.0),
                (0, 1, OddInteger(1)), (0,) * 9, OddTuple((0, 1, 2)), *no_tuples()):
            self.refused(BadParameter, "value", worlds, lot_keeps, LINE, lot, (), worlds)
        seven = (0,) * 7
        self.refused(BadParameter, "value", seven, lot_keeps, LINE, ((P, ("not", HERE[7])),), (), seven)
        self.assertIs(lot_keeps(LINE, ((P, ("not", HERE[7])),), (), (0,) * 8), True)
        self.assertIs(lot_keeps((1, ()), ((HERE[0], YES),), (), (0,)), True)

    def test_order_of_refusals(self):
        web, lot, marking, worlds = (0, ()), ((P, ("here", 8)),), ((3,),), (5,)
        for value in no_tuples():
            self.refused(BadWeb, "value", value, lot_keeps, value, lot, marking, worlds)
            if type(value) is not tuple or not value:
                self.refused(BadLot, "place", (), lot_keeps, LINE, value, marking, worlds)
            self.refused(BadMarking, "value", value, lot_keeps, LINE, (), value, worlds)
            self.refused(BadParameter, "value", value, lot_keeps, LINE, (), (), value)
        self.refused(BadWeb, "value", web, lot_keeps, web, lot, marking, worlds)
        self.refused(BadLot, "place", (0, 1), lot_keeps, LINE, lot, marking, worlds)
        self.refused(BadMarking, "value", marking, lot_keeps, LINE, (), marking, worlds)
        self.refused(BadParameter, "value", worlds, lot_keeps, LINE, (), ((),), worlds)
        self.refused(TooGreat, "most", 2000, lot_keeps, LINE, ((term_of_words(2000), P),), marking, worlds)


def boxes_and(boxes, end):
    return ("gives", halved("and", boxes), end)


class TestLotOf(Refusals, unittest.TestCase):
    def test_the_example(self):
        lot = ((HERE[0], ("each", 0, P)), (HERE[0], ("not", P)))
        self.assertEqual(lot_of(LOOP, 0), lot)
        self.assertEqual(lot_of(number=0, saying=LOOP), lot)

    def test_lines_of_a_row(self):
        saying = ("gives", ("and", ("each", 0, ("gives", P, Q)), ("or", P, ("some", 0, P))), ("some", 0, Q))
        self.assertEqual(lot_of(saying, 1), (
            (HERE[0], ("each", 0, ("or", ("not", P), Q))), (HERE[1], P), (HERE[0], ("each", 0, ("not", Q)))))
        self.assertEqual(lot_of(P, 0), ((HERE[0], ("not", P)),))
        self.assertEqual(lot_of(YES, 0), ((HERE[0], NO),))
        self.assertEqual(lot_of(("not", P), 0), ((HERE[0], P),))
        self.assertEqual(lot_of(("each", 0, ("not", P)), 0), ((HERE[1], P),))

    def test_as_the_document_tells(self):
        chance = random.Random(165)
        checked = 0
        for turn in range(500):
            saying = shaped_by(chance, 1 + turn % 6)
            rows = plain_rows(saying)
            if rows[0] == "wrong":
                continue
            for number in chance.sample(range(len(rows)), min(2, len(rows))):
                tree, ends, boxes = rows[number]
                lot = [(("here", place), box) for place, box in boxes]
                lot.extend((("here", place), turned_about(end)) for place, met in enumerate(ends) for end in met)
                if len(ends) > 8:
                    self.refused(TooGreat, "most", 8, lot_of, saying, number)
                else:
                    checked += 1
                    found = lot_of(saying, number)
                    self.plain(found)
                    self.assertIs(need_lot(found), found)
                    self.assertEqual(found, tuple(lot))
        self.assertGreater(checked, 500)

    def test_thirty_lines(self):
        for boxes, ends, fits in (
                (30, 0, True), (29, 1, True), (15, 15, True), (1, 29, True), (31, 0, False), (30, 1, False), (1, 30, False)):
            met = halved("and", [("each", 0, P)] * boxes)
            for _ in range(ends):
                met = ("and", met, ("not", ("some", 0, Q)))
            saying = ("not", met)
            if fits:
                self.assertEqual(len(lot_of(saying, 0)), 30)
            else:
                self.refused(TooGreat, "most", 30, lot_of, saying, 0)

    def test_two_thousand_words(self):
        # One negative part is told with each of the pieces.
        found = []
        for words in range(60, 80):
            negative = ("not", halved("or", [Q] * words))
            saying = ("not", ("each", 0, ("or", negative, halved("and", [P] * 9))))
            lot = tuple((HERE[0], box) for _, box in row_of(saying, 0)[2])
            found.append(sum(plain_words(term) for line in lot for term in line) <= 2000)
            if found[-1]:
                self.assertEqual(lot_of(saying, 0), lot)
            else:
                self.refused(TooGreat, "most", 2000, lot_of, saying, 0)
        self.assertEqual(found, sorted(found, reverse=True))
        self.assertEqual(set(found), {True, False})
        great = ("not", ("each", 0, ("or", ("not", halved("or", [Q] * 50)), halved("and", [P] * 31))))
        self.refused(TooGreat, "most", 30, lot_of, great, 0)

    def test_just_two_thousand_words(self):
        # Each of 20 lines: here, each, or, a negative part of 2 * 32 - 1 letters turned inward, P.
        negative = ("each", -1, ("not", halved("or", [Q] * 32)))
        base = ("each", 0, ("or", negative, halved("and", [P] * 20)))
        words = sum(plain_words(term) for line in lot_of(("not", base), 0) for term in line)
        self.assertEqual(words, 20 * (1 + 1 + 1 + 1 + 95 + 1))
        rest = 2000 - words
        self.assertEqual(rest, 0)
        self.refused(TooGreat, "most", 2000, lot_of, ("not", ("and", base, P)), 0)

    def test_errors_of_row_of_come_first(self):
        for value in no_tuples():
            self.refused(BadSaying, "path", (), lot_of, value, 0)
            self.refused(BadSaying, "path", (1,), lot_of, ("not", value), Touchy())
        self.refused(TooGreat, "most", 40, lot_of, chain(41), 0)
        self.refused(TooGreat, "most", 400, lot_of, bush(401), 0)
        self.out_of_shape(("each", 0, ("some", 0, P)), (), lot_of, MCKINSEY, 7)
        for value in [*no_numbers(), -1, 1, 2]:
            self.refused(BadParameter, "value", value, lot_of, LOOP, value)
        deep = ("not", ("and", somes(8, P), halved("and", [P] * 31)))
        self.refused(TooGreat, "most", 8, lot_of, deep, 0)
        self.refused(BadParameter, "value", 1, lot_of, deep, 1)
        self.refused(TooGreat, "most", 30, lot_of, ("not", ("and", somes(7, P), halved("and", [P] * 30))), 0)

    def test_rows_in_which_letters_are_needed_for_themselves(self):
        saying = boxes_and([needs(P, Q), needs(Q, P)], P)
        with self.assertRaises(NoShape):
            needing_order(saying, 0)
        self.assertEqual(len(lot_of(saying, 0)), 3)


class TestFacts(Refusals, unittest.TestCase):
    """A saying fails exactly if some row's lot can be kept along its TREE."""

    def test_sayings_with_no_piece_out_of_shape(self):
        chance = random.Random(166)
        webs = [web for web in small_webs() if web[0] <= 2]
        found = {True: 0, False: 0}
        while min(found.values()) < 60:
            saying, web = shaped_by(chance, chance.randint(1, 4), 2), chance.choice(webs)
            rows = plain_rows(saying)
            if rows[0] == "wrong" or len(rows) > 6 or any(len(row[1]) > 4 for row in rows):
                continue
            lots = [(row[0], lot_of(saying, number)) for number, row in enumerate(rows)]
            for world in range(web[0]):
                fails = any(
                    not plainly_holds(web, marking, saying, world) for marking in markings_of(web, saying))
                kept = any(
                    some_marking_keeps(web, lot, worlds)
                    for tree, lot in lots for worlds in plain_world_rows(web, tree, world))
                found[fails] += 1
                self.assertIs(kept, fails, (web, saying, world))

    def test_clauses_of_sayings_in_shape(self):
        chance = random.Random(167)
        webs = [web for web in small_webs() if web[0] <= 3]
        found = {True: 0, False: 0}
        while min(found.values()) < 100:
            saying, web = shaped_by(chance, chance.randint(1, 4), 2), chance.choice(webs)
            try:
                form = form_of(saying)
            except (NoShape, TooGreat):
                continue
            number = chance.randrange(len(form))
            lot, (tree, facts) = lot_of(saying, number), form[number]
            for worlds in plain_world_rows(web, tree, chance.randrange(web[0]))[:3]:
                holds = any(plainly_fact_holds(web, fact, worlds, own) for fact, own in zip(facts, worlds))
                found[not holds] += 1
                self.assertIs(some_marking_keeps(web, lot, worlds), not holds, (web, saying, worlds))


if __name__ == "__main__":
    unittest.main()
