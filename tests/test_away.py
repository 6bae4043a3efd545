"""Point 31: papers of steps, and all letters put away."""

import itertools
import random
import unittest

from anymarks.away import away, is_away_paper, led_away, put_away
from anymarks.errors import (
    BadLot, BadPaper, BadParameter, BadSaying, MarkError, NoShape, TooGreat,
)
from anymarks.forms import form_worlds
from anymarks.lots import lot_keeps, lot_of, moved, moves_at, need_lot
from anymarks.shapes import count_rows, needing_order
from anymarks.there import form_of
from tests.helpers import (
    NO, P, Q, R, YES, OddInteger, OddText, OddTuple, Refusals, Touchy, bush, chain, eaches, halved, lot_by, needs,
    no_numbers, no_tuples, plain_deep, plain_term_letters, plain_words, plain_world_rows, plainly_fact_holds, plainly_kept_lot,
    shaped_by, small_webs, some_marking_keeps, somes,
)
from tests.test_lots import term_of_words
from tests.test_moves import WORDS

HERE = [("here", place) for place in range(8)]
LETTERS = [("letter", letter) for letter in range(8)]
LOOP = ("gives", ("each", 0, P), P)
FINE = (Q, YES)
EXAMPLE = ((HERE[0], ("each", 0, P)), (HERE[0], ("not", P)))
PAPER = (("under", 0), ("least", 0))
GOAL = ((HERE[0], ("not", ("some", -1, HERE[0]))),)
MCKINSEY = ("gives", ("each", 0, ("some", 0, P)), ("some", 0, ("each", 0, P)))


def plainly_done(lot, step):
    """The lot behind one step, by the functions of points 29 and 30."""
    word, number = step
    return put_away(lot, number, word) if word in ("least", "greatest") else moved(lot, number, word)


def plain_bar(term, letter):
    """The move for a bar of the letter, None of what is no bar: as point 31 tells it."""
    def part_of_bar(part):
        return part == ("letter", letter) or plain_bar(part, letter) is not None

    def without(part):
        return letter not in plain_term_letters(((part, YES),))

    if term[0] == "each" and part_of_bar(term[2]):
        return "under"
    if term[0] == "or" and part_of_bar(term[2]) and without(term[1]):
        return "cut"
    if term[0] == "or" and part_of_bar(term[1]) and without(term[2]):
        return "trim"
    return None


def plainly_away(lot, letters):
    """(GOAL, PAPER), step by step."""
    paper = []
    for letter in letters:
        while True:
            bars = [(plain_bar(term, letter), place) for place, (_, term) in enumerate(lot)]
            bars = [bar for bar in bars if bar[0]]
            if not bars:
                break
            paper.append(bars[0])
            lot = plainly_done(lot, bars[0])
        paper.append(("least", letter))
        lot = plainly_done(lot, ("least", letter))
    return lot, tuple(paper)


class TestLedAway(Refusals, unittest.TestCase):
    def test_the_example(self):
        self.assertEqual(led_away(EXAMPLE, PAPER), GOAL)
        self.assertEqual(led_away(paper=PAPER, lot=EXAMPLE), GOAL)
        self.assertEqual(led_away(EXAMPLE, ()), EXAMPLE)

    def test_step_by_step(self):
        chance = random.Random(191)
        lengths = []
        for _ in range(500):
            lot = start = lot_by(chance, 3, 4)
            paper = []
            for _ in range(chance.randint(0, 12)):
                step = self.step_by(chance, lot)
                try:
                    lot = plainly_done(lot, step)
                except MarkError:
                    continue
                paper.append(step)
            lengths.append(len(paper))
            found = led_away(start, tuple(paper))
            self.plain(found)
            self.assertIs(need_lot(found), found)
            self.assertEqual(found, lot)
            self.assertIs(is_away_paper(start, lot, tuple(paper)), True)
        self.assertGreater(sum(lengths), 1500)

    def step_by(self, chance, lot):
        if not lot or chance.random() < 0.3:
            return chance.choice(("least", "greatest")), chance.randrange(3)
        place = chance.randrange(len(lot))
        return chance.choice(moves_at(lot, place)), place

    def test_some_marking_keeps_alike(self):
        chance = random.Random(192)
        webs = [web for web in small_webs() if web[0] <= 2]
        found = {True: 0, False: 0}
        while min(found.values()) < 100:
            lot, web = lot_by(chance, 3, 3), chance.choice(webs)
            last = lot
            for _ in range(chance.randint(1, 6)):
                try:
                    last = led_away(last, (self.step_by(chance, last),))
                except MarkError:
                    continue
            worlds = tuple(chance.randrange(web[0]) for _ in range(2))
            told = some_marking_keeps(web, lot, worlds)
            found[told] += 1
            self.assertIs(some_marking_keeps(web, last, worlds), told, (web, lot, last))

    def test_four_hundred_steps(self):
        for many in (0, 1, 399, 400):
            paper = (("turn", 0), ("inward", 0)) * 200
            told = led_away(((P, Q),), paper[:many])
            self.assertEqual(len(told), 1)
            self.assertIs(is_away_paper(((P, Q),), told, paper[:many]), True)
        self.refused(BadPaper, "place", (), led_away, ((P, Q),), (("inward", 0),) * 401)
        self.refused(BadPaper, "place", (), led_away, ((P, Q),), (5,) * 401)
        self.assertIs(is_away_paper(((P, Q),), ((P, Q),), (("inward", 0),) * 401), False)
        self.assertIs(is_away_paper(((P, Q),), ((P, Q),), (("inward", 0),) * 400), True)


class TestRefusals(Refusals, unittest.TestCase):
    def test_wrong_papers(self):
        for value in no_tuples():
            place = () if type(value) is not tuple else (0,)
            self.refused(BadPaper, "place", place, led_away, EXAMPLE, value)
            self.refused(BadPaper, "place", (1,), led_away, EXAMPLE, (("under", 0), value, 5))
            self.refused(BadPaper, "place", (0,), led_away, (), (value,))
        self.refused(BadPaper, "place", (), led_away, EXAMPLE, [("under", 0)])

    def test_things_that_are_no_steps(self):
        for step in (
                (), ("under",), ("under", 0, 0), ["under", 0], OddTuple(("under", 0)), ("Under", 0), ("most", 0),
                (OddText("under"), 0), (b"under", 0), (0, "under"), ("under", 2), ("under", -1), ("turn", 2), ("turn", None),
                ("least", 8), ("least", -1), ("greatest", 8), ("greatest", None), (None, 0), (Touchy(), 0), ([], 0),
                ("under", Touchy()), ("least", Touchy()), ("turn", (0,)), "under", ("", 0), ("least", "0")):
            self.refused(BadPaper, "place", (0,), led_away, EXAMPLE, (step,))
            self.refused(BadPaper, "place", (2,), led_away, EXAMPLE, (("turn", 0), ("turn", 1), step, 5))
            self.assertIs(is_away_paper(EXAMPLE, EXAMPLE, (step,)), False)
        for value in no_numbers():
            for word in ("under", "turn", "least", "greatest"):
                self.refused(BadPaper, "place", (0,), led_away, EXAMPLE, ((word, value),))

    def test_steps_that_do_not_fit(self):
        for step in (("over", 0), ("cut", 0), ("under", 1), ("lift", 0), ("right", 1), ("least", 0), ("greatest", 0)):
            self.refused(BadPaper, "place", (0,), led_away, EXAMPLE, (step,))
            self.refused(BadPaper, "place", (1,), led_away, EXAMPLE, (("inward", 1), step))
        # Steps that no longer fit: a place that is none any more, a move that is done.
        self.refused(BadPaper, "place", (1,), led_away, EXAMPLE, (("under", 0), ("under", 0)))
        self.refused(BadPaper, "place", (2,), led_away, EXAMPLE, (*PAPER, ("turn", 1)))
        self.assertEqual(led_away(EXAMPLE, (*PAPER, ("turn", 0))), ((("not", GOAL[0][1]), ("not", HERE[0])),))

    def test_too_great_as_the_steps_raise_it(self):
        full = ((P, ("and", P, Q)),) * 30
        self.refused(TooGreat, "most", 30, led_away, full, (("right", 0),))
        self.refused(TooGreat, "most", 2000, led_away, ((P, term_of_words(1999)),), (("turn", 0),))
        self.refused(TooGreat, "most", 100, led_away, ((P, Q),), (("turn", 0),) * 100)
        self.assertEqual(len(led_away(((P, Q),), (("turn", 0),) * 99)), 1)
        great = ((term_of_words(1000, HERE[0]), P), (("and", P, P), Q))
        self.refused(TooGreat, "most", 2000, led_away, great, (("least", 0),))
        # In turn: what comes first is told.
        self.refused(TooGreat, "most", 30, led_away, full, (("turn", 0), ("right", 1), 5))
        self.refused(BadPaper, "place", (1,), led_away, full, (("turn", 0), 5, ("right", 1)))
        for lot, paper in ((full, (("right", 0),)), (great, (("least", 0),)), (((P, Q),), (("turn", 0),) * 100)):
            self.assertIs(is_away_paper(lot, lot, paper), False)

    def test_the_lot_comes_first(self):
        for value in no_tuples():
            if type(value) is not tuple or not value:
                self.refused(BadLot, "place", (), led_away, value, Touchy())
                self.refused(BadLot, "place", (), is_away_paper, value, value, Touchy())
                self.refused(BadLot, "place", (), is_away_paper, EXAMPLE, value, Touchy())
        self.refused(BadLot, "place", (1, 0), led_away, (FINE, (5, P)), (5,))
        self.refused(BadLot, "place", (0, 1), is_away_paper, ((P, 5),), (FINE, 5), ())
        self.refused(BadLot, "place", (1,), is_away_paper, EXAMPLE, (FINE, 5), ())
        self.refused(TooGreat, "most", 2000, is_away_paper, EXAMPLE, ((P, term_of_words(2000)),), ())
        self.refused(TooGreat, "most", 100, is_away_paper, ((P, chain(101)),), 5, ())


class TestIsAwayPaper(Refusals, unittest.TestCase):
    def test_the_very_goal(self):
        self.assertIs(is_away_paper(EXAMPLE, GOAL, PAPER), True)
        self.assertIs(is_away_paper(value=PAPER, goal=GOAL, lot=EXAMPLE), True)
        self.assertIs(is_away_paper(EXAMPLE, EXAMPLE, ()), True)
        self.assertIs(is_away_paper(EXAMPLE, EXAMPLE, PAPER), False)
        self.assertIs(is_away_paper(EXAMPLE, GOAL, PAPER[:1]), False)
        self.assertIs(is_away_paper(EXAMPLE, GOAL + GOAL, PAPER), False)
        self.assertIs(is_away_paper(EXAMPLE, (), PAPER), False)

    def test_values_of_any_kind(self):
        for value in [*no_tuples(), *no_numbers(), (PAPER,), list(PAPER), OddTuple(PAPER), (("under", False),)]:
            told = value == () if type(value) is tuple else False
            self.assertIs(is_away_paper(EXAMPLE, EXAMPLE, value), told)
            self.assertIs(is_away_paper(EXAMPLE, GOAL, value), False)


class TestAway(Refusals, unittest.TestCase):
    def test_the_example(self):
        self.assertEqual(lot_of(LOOP, 0), EXAMPLE)
        self.assertEqual(away(LOOP, 0, (0,)), (GOAL, PAPER))
        self.assertEqual(away(letters=(0,), number=0, saying=LOOP), (GOAL, PAPER))

    def test_bars(self):
        for box, words in (
                (P, ()), (("each", 0, P), ("under",)), (("each", 0, ("each", -1, P)), ("under", "under")),
                (("each", 0, ("gives", Q, P)), ("under", "cut")), (("each", 0, ("or", P, ("not", Q))), ("under", "trim")),
                (("each", 0, ("or", ("each", 1, ("or", ("not", R), P)), ("not", Q))), ("under", "trim", "under", "cut"))):
            saying = ("not", box)
            letters = tuple(sorted(plain_term_letters(((box, YES),)), reverse=False))
            goal, paper = away(saying, 0, (0, *[letter for letter in letters if letter]))
            self.assertEqual(paper[:len(words) + 1], (*[(word, 0) for word in words], ("least", 0)))
            self.assertEqual(plain_term_letters(goal), ())

    def test_an_or_at_the_outside(self):
        """A negative part with the letter itself makes an "or" no bar of it."""
        saying = ("not", ("and", P, ("each", 0, ("gives", P, Q))))
        lot = lot_of(saying, 0)
        self.assertEqual(lot, ((HERE[0], P), (HERE[0], ("each", 0, ("or", ("not", P), Q)))))
        goal, paper = away(saying, 0, (0, 1))
        self.assertEqual(paper, (("least", 0), ("under", 1 - 1), ("cut", 0), ("least", 1)))
        goal, paper = away(saying, 0, (1, 0))
        self.assertEqual(paper, (("under", 1), ("cut", 1), ("least", 1), ("least", 0)))
        self.assertEqual(goal, ())

    def test_step_by_step_in_all_orders(self):
        chance = random.Random(193)
        checked = 0
        for turn in range(400):
            saying = shaped_by(chance, 1 + turn % 6)
            try:
                many = count_rows(saying)
            except NoShape:
                continue
            for number in chance.sample(range(many), min(2, many)):
                try:
                    needing_order(saying, number)
                    lot = lot_of(saying, number)
                except (NoShape, TooGreat):
                    continue
                for letters in itertools.permutations(plain_term_letters(lot)):
                    checked += 1
                    told = away(saying, number, letters)
                    self.plain(told)
                    self.assertEqual(told, plainly_away(lot, letters), (saying, number, letters))
                    goal, paper = told
                    self.assertIs(need_lot(goal), goal)
                    self.assertEqual(plain_term_letters(goal), ())
                    self.assertEqual(led_away(lot, paper), goal)
                    self.assertIs(is_away_paper(lot, goal, paper), True)
        self.assertGreater(checked, 600)

    def test_the_goal_is_kept_where_the_clause_fails(self):
        chance = random.Random(194)
        webs = [web for web in small_webs() if web[0] <= 4]
        found = {True: 0, False: 0}
        while min(found.values()) < 250:
            saying, web = shaped_by(chance, chance.randint(1, 5)), chance.choice(webs)
            try:
                form = form_of(saying)
                number = chance.randrange(len(form))
                lot = lot_of(saying, number)
            except (NoShape, TooGreat):
                continue
            tree, facts = form[number]
            for letters in itertools.permutations(plain_term_letters(lot)):
                goal, _ = away(saying, number, letters)
                for worlds in plain_world_rows(web, tree, chance.randrange(web[0]))[:2]:
                    holds = any(plainly_fact_holds(web, fact, worlds, own) for fact, own in zip(facts, worlds))
                    found[not holds] += 1
                    self.assertIs(plainly_kept_lot(web, goal, (), worlds), not holds, (web, saying, letters))
                    self.assertIs(lot_keeps(web, goal, (), worlds), not holds)

    def test_without_letters(self):
        self.assertEqual(away(YES, 0, ()), (((HERE[0], NO),), ()))
        self.assertEqual(away(("or", NO, ("some", 0, YES)), 0, ()), (((HERE[0], ("and", YES, ("each", 0, NO))),), ()))

    def test_where_the_saying_is_kept_nowhere(self):
        web = (2, ((0, 0, 1),))
        self.assertEqual(form_worlds(web, form_of(LOOP)), ())
        for world in (0, 1):
            self.assertIs(lot_keeps(web, GOAL, (), (world,)), True)


class TestRefusalsOfAway(Refusals, unittest.TestCase):
    def test_letters(self):
        saying = ("gives", ("and", ("each", 0, P), ("and", Q, LETTERS[5])), R)
        letters = plain_term_letters(lot_of(saying, 0))
        self.assertEqual(letters, (0, 1, 2, 5))
        for order in itertools.permutations(letters):
            away(saying, 0, order)
        for value in [
                (), (0, 1, 2), (0, 1, 2, 3), (0, 1, 2, 5, 5), (0, 1, 2, 5, 6), (0, 0, 1, 2), [0, 1, 2, 5], {0, 1, 2, 5},
                (0, 1, 2, 5.0), (False, 1, 2, 5), (0, True, 2, 5), (0, 1, 2, OddInteger(5)), OddTuple((0, 1, 2, 5)),
                (0, 1, 2, Touchy()), (0, 1, 2, None), (0, 1, 2, "5"), (0, 1, 2, 5, 3, 4, 6, 7, 8), *no_tuples(), *no_numbers()]:
            self.refused(BadParameter, "value", value, away, saying, 0, value)
        # The letters of this lot, not of the whole saying.
        two = ("not", ("or", ("each", 0, P), Q))
        self.assertEqual(away(two, 0, (0,)), ((), PAPER))
        self.assertEqual(away(two, 1, (1,)), ((), (("least", 1),)))
        self.refused(BadParameter, "value", (1,), away, two, 0, (1,))
        self.refused(BadParameter, "value", (0, 1), away, two, 0, (0, 1))

    def test_order_of_refusals(self):
        for value in no_tuples():
            self.refused(BadSaying, "path", (), away, value, 9, 9)
        self.refused(TooGreat, "most", 400, away, bush(401), 9, 9)
        self.out_of_shape(("each", 0, ("some", 0, P)), (), away, MCKINSEY, 9, 9)
        for value in [*no_numbers(), -1, 1]:
            self.refused(BadParameter, "value", value, away, LOOP, value, 9)
        circle = ("not", ("and", needs(P, Q), needs(Q, P)))
        self.out_of_shape(None, (0, 1), away, circle, 0, 9)
        worlds = ("not", ("and", somes(8, P), ("and", needs(P, P), P)))
        self.refused(TooGreat, "most", 8, away, worlds, 0, 9)
        many = ("not", ("and", halved("and", [P] * 31), needs(P, P)))
        self.out_of_shape(None, (0,), away, many, 0, 9)
        self.refused(TooGreat, "most", 30, away, ("not", halved("and", [P] * 31)), 0, 9)
        wide = ("not", ("each", 0, ("or", ("not", halved("or", [Q] * 100)), halved("and", [P] * 20))))
        self.refused(TooGreat, "most", 2000, away, wide, 0, 9)
        # Rows other than this one may be out of shape.
        both = ("not", ("or", ("each", 0, P), circle[1]))
        self.assertEqual(len(away(both, 0, (0,))[1]), 2)
        self.out_of_shape(None, (0, 1), away, both, 1, (0, 1))

    def test_four_hundred_steps(self):
        # Each of so many boxes takes so many steps, and there is one for the letter.
        for boxes, steps, more, fits in ((13, 28, 35, True), (13, 28, 36, False), (14, 27, 21, True), (14, 27, 22, False)):
            pieces = halved("and", [P] * boxes)
            saying = ("not", ("and", eaches(steps, pieces), eaches(more, P)))
            if fits:
                self.assertEqual(len(away(saying, 0, (0,))[1]), 400)
            else:
                self.refused(TooGreat, "most", 400, away, saying, 0, (0,))

    def test_two_thousand_words_as_the_steps_raise_it(self):
        # The letter becomes 10 * 30 + 9 words, and stands so often in an end.
        boxes = halved("and", [P] * 10)
        found = []
        for uses in range(4, 9):
            saying = ("gives", eaches(29, boxes), halved("or", [P] * uses))
            found.append(self.greatest_or_most(plain_words, saying, (0,)))
        # Beside the uses and what puts them together there are nots and ("here", 0).
        self.assertEqual(found, [uses * 309 + 2 * uses for uses in (4, 5, 6)] + [2000, 2000])

    def greatest_or_most(self, measure, saying, letters):
        """The words, or depth, of the goal, or the bound that it is beyond."""
        try:
            goal, _ = away(saying, 0, letters)
        except TooGreat as error:
            return error.most
        return (sum if measure is plain_words else max)([measure(term) for line in goal for term in line])

    def test_a_hundred_deep_as_the_steps_raise_it(self):
        for letters in ((0, 1), (1, 0)):
            found = []
            for more in range(24, 38):
                saying = ("gives", ("and", eaches(30, P), needs(somes(32, P), Q)), somes(more, Q))
                found.append(self.greatest_or_most(plain_deep, saying, letters))
            # What is told is one deeper, by a "not", with each step more.
            self.assertEqual(found, sorted(found))
            self.assertEqual(found[:3], [found[0], found[0] + 1, found[0] + 2])
            self.assertEqual(found.count(100), len(found) - (100 - found[0]))


class TestWords(unittest.TestCase):
    def test_all_words_of_moves_are_steps(self):
        chance = random.Random(195)
        seen = set()
        for _ in range(400):
            lot = lot_by(chance, 3, 4)
            for place in range(len(lot)):
                for word in moves_at(lot, place):
                    seen.add(word)
                    self.assertEqual(led_away(lot, ((word, place),)), moved(lot, place, word))
        self.assertEqual(seen, set(WORDS))


if __name__ == "__main__":
    unittest.main()
