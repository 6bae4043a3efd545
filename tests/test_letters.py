"""Point 15: sayings put in for letters, and letters renamed."""

import random
import unittest

from anymarks.errors import BadLetter, BadParameter, BadSaying, TooGreat
from anymarks.inward import inward, turned_about
from anymarks.sayings import deep_in, holding, need_saying, put_in, renamed, words_in
from tests.helpers import (
    NO, P, Q, R, YES, OddInteger, Refusals, all_markings, bush, chain, many_sayings, marking_by,
    no_numbers, no_tuples, small_webs,
)


def many_letters(many):
    """A saying with the letter 0 so many times, of one word less than twice as many."""
    return P if many == 1 else ("or", many_letters(many // 2), many_letters(many - many // 2))


class TestExample(unittest.TestCase):
    def test_word_for_word(self):
        saying = ("gives", ("each", 0, ("letter", 0)), ("letter", 0))
        self.assertEqual(inward(saying), ("or", ("some", 0, ("not", ("letter", 0))), ("letter", 0)))
        about = ("and", ("each", 0, ("letter", 0)), ("not", ("letter", 0)))
        self.assertEqual(turned_about(saying), about)
        web = (3, ((0, 0, 1), (0, 1, 2)))
        self.assertEqual(holding(web, ((1,),), saying), (1,))
        self.assertEqual(holding(web, ((1,),), turned_about(saying)), (0, 2))


class TestPutIn(Refusals, unittest.TestCase):
    def test_put_in(self):
        within = ("gives", ("each", 0, P), ("or", Q, ("not", P)))
        other = ("some", -1, P)
        told = ("gives", ("each", 0, other), ("or", Q, ("not", other)))
        self.assertEqual(put_in(within, 0, other), told)
        self.assertEqual(put_in(letter=1, other=YES, saying=within), put_in(within, 1, YES))
        self.assertEqual(put_in(within, 1, YES), ("gives", ("each", 0, P), ("or", YES, ("not", P))))
        self.assertEqual(put_in(within, 2, NO), within)
        self.assertEqual(put_in(within, 7, bush(400)), within)

    def test_a_letter_alone(self):
        for letter in range(8):
            for other in range(8):
                told = NO if letter == other else ("letter", other)
                self.assertEqual(put_in(("letter", other), letter, NO), told)

    def test_a_letter_within_what_is_put_in_stays(self):
        self.assertEqual(put_in(("and", P, Q), 0, ("or", P, Q)), ("and", ("or", P, Q), Q))

    def test_it_holds_where_the_letter_is_where_the_other_one_holds(self):
        chance = random.Random(15)
        sayings = many_sayings()
        for web in small_webs():
            for _ in range(25):
                saying, other = chance.choice(sayings[:300]), chance.choice(sayings[:300])
                marking = marking_by(chance, web[0], 3)
                letter = chance.randrange(4)
                self.same_worlds(web, marking, saying, letter, other)

    def same_worlds(self, web, marking, saying, letter, other):
        result = put_in(saying, letter, other)
        self.plain(result)
        items = [*marking, (), ()]
        items[letter] = holding(web, marking, other)
        self.assertEqual(holding(web, marking, result), holding(web, tuple(items), saying))

    def test_under_all_markings(self):
        web = (2, ((0, 0, 1), (1, 1, 1)))
        chance = random.Random(16)
        sayings = many_sayings()[:300]
        pairs = [(chance.choice(sayings), chance.choice(sayings)) for _ in range(40)]
        for marking in all_markings(2, 3):
            for saying, other in pairs:
                self.same_worlds(web, marking, saying, 0, other)


class TestPutInBounds(Refusals, unittest.TestCase):
    def test_most_words(self):
        self.assertEqual(words_in(put_in(("and", P, ("not", P)), 0, bush(199))), 400)
        self.refused(TooGreat, "most", 400, put_in, ("and", P, P), 0, bush(200))
        self.assertEqual(words_in(put_in(many_letters(200), 0, YES)), 399)
        self.assertEqual(words_in(put_in(("not", many_letters(200)), 0, YES)), 400)
        self.refused(TooGreat, "most", 400, put_in, many_letters(200), 0, ("not", YES))
        self.refused(TooGreat, "most", 400, put_in, many_letters(200), 0, bush(400))
        self.assertEqual(words_in(put_in(many_letters(100), 0, bush(3))), 399)
        self.assertEqual(words_in(put_in(("not", many_letters(100)), 0, bush(3))), 400)
        self.refused(TooGreat, "most", 400, put_in, ("not", ("not", many_letters(100))), 0, bush(3))
        self.assertEqual(words_in(put_in(P, 0, bush(400))), 400)
        self.assertEqual(words_in(put_in(bush(400), 7, bush(400))), 400)

    def test_most_deep(self):
        for many in (1, 2, 20, 39, 40):
            self.assertEqual(deep_in(put_in(chain(many), 0, chain(41 - many))), 40)
            if many > 1:
                self.refused(TooGreat, "most", 40, put_in, chain(many), 0, chain(42 - many))
        self.refused(TooGreat, "most", 40, put_in, chain(40), 0, chain(40))

    def test_only_the_letter_counts(self):
        aside = ("and", ("not", P), chain(39, Q))
        self.assertEqual(deep_in(put_in(aside, 0, chain(38))), 40)
        self.refused(TooGreat, "most", 40, put_in, aside, 0, chain(39))
        self.assertEqual(deep_in(put_in(aside, 1, ("letter", 5))), 40)
        self.refused(TooGreat, "most", 40, put_in, aside, 1, ("not", P))
        self.assertEqual(put_in(aside, 2, chain(40)), aside)

    def test_each_word_leads_deeper(self):
        for saying in (
                ("not", P), ("and", P, Q), ("and", Q, P), ("or", P, Q), ("or", Q, P), ("gives", P, Q),
                ("gives", Q, P), ("each", 0, P), ("some", 0, P)):
            self.assertEqual(deep_in(put_in(saying, 0, chain(39))), 40)
            self.refused(TooGreat, "most", 40, put_in, saying, 0, chain(40))

    def test_too_many_words_come_ahead_of_too_deep(self):
        both = ("and", P, ("and", P, P))
        other = ("and", bush(150), chain(38))
        self.assertEqual((words_in(other), deep_in(other)), (189, 39))
        self.refused(TooGreat, "most", 400, put_in, both, 0, other)
        self.refused(TooGreat, "most", 40, put_in, both, 0, chain(39))

    def test_by_counting(self):
        self.refused(TooGreat, "most", 400, put_in, many_letters(200), 0, bush(400))


class TestPutInRefusals(Refusals, unittest.TestCase):
    def test_wrong_sayings(self):
        for value in [*no_tuples(), (), ("letter", 8)]:
            self.refused(BadSaying, "path", (), put_in, value, 0, P)
            self.refused(BadSaying, "path", (), put_in, value, 8, P)
            self.refused(BadSaying, "path", (1,), put_in, ("not", value), 0, ("and", P, 0))
        self.refused(TooGreat, "most", 40, put_in, chain(41), 8, 5)
        self.refused(TooGreat, "most", 400, put_in, bush(401), 0, 5)

    def test_wrong_letters(self):
        for value in [-1, 8, 10 ** 5000, OddInteger(0), *no_numbers()]:
            self.refused(BadLetter, "value", value, put_in, P, value, Q)
            self.refused(BadLetter, "value", value, put_in, P, value, 5)
            self.refused(BadLetter, "value", value, put_in, saying=P, letter=value, other=chain(41))

    def test_wrong_others(self):
        for value in [*no_tuples(), (), ("letter", 8)]:
            self.refused(BadSaying, "path", (), put_in, P, 0, value)
            self.refused(BadSaying, "path", (), put_in, R, 0, value)
            self.refused(BadSaying, "path", (2,), put_in, P, 0, ("or", P, value))
        self.refused(TooGreat, "most", 40, put_in, many_letters(200), 0, chain(41))
        self.refused(TooGreat, "most", 400, put_in, chain(40), 0, bush(401))
        self.refused(TooGreat, "most", 400, put_in, R, 0, bush(401))


class TestRenamed(Refusals, unittest.TestCase):
    def test_renamed(self):
        within = ("gives", ("each", 0, P), ("or", Q, ("not", ("letter", 7))))
        self.assertEqual(
            renamed(within, (1, 0, 2, 3, 4, 5, 6, 4)),
            ("gives", ("each", 0, Q), ("or", P, ("not", ("letter", 4)))))
        self.assertEqual(renamed(letters=tuple(range(8)), saying=within), within)
        self.assertEqual(renamed(YES, (0,) * 8), YES)
        self.assertEqual(
            renamed(within, (5,) * 8),
            ("gives", ("each", 0, ("letter", 5)), ("or", ("letter", 5), ("not", ("letter", 5)))))

    def test_each_letter(self):
        letters = (7, 6, 5, 4, 3, 2, 1, 0)
        for letter in range(8):
            self.assertEqual(renamed(("letter", letter), letters), ("letter", 7 - letter))

    def test_the_greatest(self):
        for saying in (bush(400), chain(40)):
            moved = renamed(saying, (3,) * 8)
            self.assertIs(need_saying(moved), moved)
            self.assertEqual(renamed(moved, (0,) * 8), saying)

    def test_holds_where_the_saying_does_under_the_letters(self):
        chance = random.Random(17)
        sayings = many_sayings()
        for web in small_webs():
            for saying in chance.sample(sayings, 12):
                letters = tuple([chance.randrange(8) for _ in range(8)])
                marking = marking_by(chance, web[0], 8)
                result = renamed(saying, letters)
                self.plain(result)
                under = tuple([marking[letter] for letter in letters])
                self.assertEqual(holding(web, marking, result), holding(web, under, saying))

    def test_wrong_letters(self):
        good = tuple(range(8))
        found = [*no_tuples(), (), good[:7], good + (0,), list(good), "01234567", range(8)]
        for wrong in [-1, 8, 10 ** 5000, OddInteger(0), *no_numbers()]:
            found.extend([(wrong,) + good[1:], good[:7] + (wrong,), good[:3] + (wrong,) + good[4:]])
        for value in found:
            self.refused(BadParameter, "value", value, renamed, P, value)
            self.refused(BadParameter, "value", value, renamed, letters=value, saying=YES)

    def test_wrong_sayings_come_first(self):
        for value in [*no_tuples(), (), ("letter", 8)]:
            self.refused(BadSaying, "path", (), renamed, value, (0,) * 8)
            self.refused(BadSaying, "path", (1,), renamed, ("not", value), (0,) * 7)
        self.refused(TooGreat, "most", 40, renamed, chain(41), None)
        self.refused(TooGreat, "most", 400, renamed, bush(401), None)


if __name__ == "__main__":
    unittest.main()
