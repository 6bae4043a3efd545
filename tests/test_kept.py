"""Point 3 and 16: what is kept, by trying all markings."""

import random
import unittest

from anymarks.errors import BadSaying, BadWeb, BadWorld, TooGreat
from anymarks.kept import fails_by, is_kept, tried
from anymarks.sayings import holding, letters_in, put_in, renamed
from tests.helpers import (
    GREAT_WEB, LINE, NO, P, Q, R, YES, OddInteger, Refusals, Touchy, bush, chain, flat_sayings, many_sayings,
    no_numbers, no_tuples, plain_failing, saying_by, small_webs, web_by,
)

ARROW = (2, ((0, 0, 1),))
SOME_P_OR_EACH_NOT_P = ("or", ("some", 0, P), ("each", 0, ("not", P)))
EACH_GIVES = ("gives", ("each", 0, P), P)


def letters_and(*letters):
    saying = YES
    for letter in letters:
        saying = ("and", saying, ("letter", letter))
    return saying


def bits_of(web, saying):
    return len(letters_in(saying)) * web[0]


class TestByTrying(Refusals, unittest.TestCase):
    def test_the_example(self):
        self.assertEqual(tried(ARROW, SOME_P_OR_EACH_NOT_P), (0, 1))
        self.assertEqual(tried(ARROW, EACH_GIVES), ())
        self.assertEqual(fails_by(ARROW, EACH_GIVES, 0), ((1,),))
        self.assertEqual(fails_by(ARROW, EACH_GIVES, 1), ((),))
        for world in (0, 1):
            self.assertIs(is_kept(ARROW, SOME_P_OR_EACH_NOT_P, world), True)
            self.assertIs(is_kept(ARROW, EACH_GIVES, world), False)
            self.no_row(fails_by, ARROW, SOME_P_OR_EACH_NOT_P, world)

    def test_by_name(self):
        self.assertEqual(tried(saying=SOME_P_OR_EACH_NOT_P, web=ARROW), (0, 1))
        self.assertIs(is_kept(world=0, saying=EACH_GIVES, web=ARROW), False)
        self.assertEqual(fails_by(world=0, saying=EACH_GIVES, web=ARROW), ((1,),))

    def test_the_least_marking(self):
        loops = (3, ((0, 0, 0), (0, 1, 1), (0, 2, 2)))
        self.assertEqual(fails_by(loops, ("not", P), 1), ((0, 1),))
        self.assertEqual(fails_by(loops, ("not", P), 2), ((0, 1, 2),))
        self.assertEqual(fails_by(loops, ("not", ("and", P, ("not", Q))), 1), ((0, 1), ()))
        self.assertEqual(fails_by(loops, ("or", ("not", Q), P), 2), ((), (0, 1, 2)))
        chosen = ("not", ("or", ("and", P, ("not", Q)), ("and", Q, ("not", P))))
        self.assertEqual(fails_by((1, ()), chosen, 0), ((), (0,)))

    def test_letters_between_those_that_stand(self):
        saying = ("gives", ("letter", 2), ("letter", 5))
        self.assertEqual(fails_by((1, ()), saying, 0), ((), (), (0,), (), (), ()))
        self.assertEqual(fails_by((2, ()), ("not", ("letter", 7)), 1), ((),) * 7 + ((0, 1),))
        self.assertEqual(fails_by(LINE, ("letter", 6), 0), ((),) * 7)
        self.assertEqual(tried((6, ()), ("gives", ("letter", 7), ("or", ("letter", 7), P))), tuple(range(6)))

    def test_without_letters(self):
        chance = random.Random(21)
        webs = [GREAT_WEB, web_by(chance, 200, 900), web_by(chance, 13, 20), LINE]
        for saying in (YES, NO, ("some", 0, YES), ("each", -1, ("some", 1, YES)), ("each", 2, NO)):
            for web in webs:
                there = holding(web, (), saying)
                self.assertEqual(tried(web, saying), there)
                for world in (0, 1, 2, web[0] - 1):
                    self.assertIs(is_kept(web, saying, world), world in there)
                    if world in there:
                        self.no_row(fails_by, web, saying, world)
                    else:
                        self.assertEqual(fails_by(web, saying, world), ())

    def test_as_all_markings_tell(self):
        chance = random.Random(22)
        sayings = [*many_sayings(), EACH_GIVES, SOME_P_OR_EACH_NOT_P]
        for web in small_webs():
            for saying in chance.sample(sayings, 40):
                if bits_of(web, saying) <= 6:
                    self.check(web, saying)

    def test_as_all_markings_tell_at_the_bound(self):
        chance = random.Random(23)
        for size, letters in ((12, 1), (6, 2), (4, 3), (3, 4), (1, 8)):
            for _ in range(2):
                saying = ("gives", letters_and(*range(letters)), saying_by(chance, 3, letters))
                self.check(web_by(chance, size, 2 * size), saying)

    def check(self, web, saying):
        told = plain_failing(web, saying)
        kept = tuple(world for world in range(web[0]) if told[world] is None)
        self.plain(tried(web, saying))
        self.assertEqual(tried(web, saying), kept, (web, saying))
        for world in range(web[0]):
            self.assertIs(is_kept(web, saying, world), world in kept)
            if world in kept:
                self.no_row(fails_by, web, saying, world)
            else:
                found = fails_by(web, saying, world)
                self.plain(found)
                self.assertEqual(found, told[world], (web, saying, world))


class TestFacts(unittest.TestCase):
    def setUp(self):
        self.chance = random.Random(24)

    def some_webs(self):
        return [web for web in small_webs() if web[0] <= 4]

    def some_kept(self, web):
        """Some sayings that are kept at some world."""
        sayings = [*many_sayings(), SOME_P_OR_EACH_NOT_P, EACH_GIVES]
        found = [saying for saying in self.chance.sample(sayings, 60) if bits_of(web, saying) <= 9]
        return [saying for saying in found if letters_in(saying) and tried(web, saying)]

    def test_renamed_and_put_in(self):
        flat = [saying for saying in flat_sayings() if letters_in(saying) in ((), (0,))]
        checked = 0
        for web in self.some_webs():
            for saying in self.some_kept(web):
                worlds = set(tried(web, saying))
                letters = tuple(self.chance.choice((0, 1, 6)) for _ in range(8))
                changed = [renamed(saying, letters), put_in(saying, 0, self.chance.choice(flat))]
                for told in changed:
                    if bits_of(web, told) <= 12:
                        self.assertLessEqual(worlds, set(tried(web, told)), (web, saying, told))
                        checked += 1
        self.assertGreater(checked, 300)

    def test_each_and_and_gives(self):
        chance = self.chance
        for web in self.some_webs():
            for _ in range(12):
                first, second = [saying_by(chance, 3, 2) for _ in range(2)]
                kept_first, kept_second = tried(web, first), tried(web, second)
                both = tuple(world for world in kept_first if world in kept_second)
                self.assertEqual(tried(web, ("and", first, second)), both)
                self.assertLessEqual(
                    set(tried(web, ("gives", first, second))) & set(kept_first), set(kept_second))
                for way in (0, -1, 2, -3):
                    told = [
                        world for world in range(web[0])
                        if all(there in kept_first for there in led(web, way, world))
                    ]
                    self.assertEqual(tried(web, ("each", way, first)), tuple(told))


def led(web, way, world):
    if way >= 0:
        return [end for kind, start, end in web[1] if (kind, start) == (way, world)]
    return [start for kind, start, end in web[1] if (kind, end) == (-1 - way, world)]


class TestRefusals(Refusals, unittest.TestCase):
    def functions(self, world=0):
        """All three, as functions of web and saying."""
        return (
            tried, lambda web, saying: is_kept(web, saying, world),
            lambda web, saying: fails_by(web, saying, world),
        )

    def test_twelve_and_thirteen(self):
        for letters, size, great in (
                ((0,), 12, False), ((0,), 13, True), ((7,), 13, True), ((3, 5), 6, False), ((3, 5), 7, True),
                ((0, 2, 7), 4, False), ((0, 2, 7), 5, True), ((1, 2, 3, 4), 3, False), ((1, 2, 3, 4), 4, True),
                ((0, 1, 2, 3, 4, 5), 2, False), ((0, 1, 2, 3, 4, 5, 6), 2, True), (range(8), 1, False),
                (range(8), 2, True), ((), 200, False), ((0,), 200, True)):
            web = (size, ((0, 0, 0),))
            saying = ("or", letters_and(*letters, *letters), letters_and(*letters))
            for function in self.functions(size - 1):
                if great:
                    self.refused(TooGreat, "most", 12, function, web, saying)
                else:
                    function(web, saying if letters else ("not", saying))

    def test_wrong_webs(self):
        for value in [*no_tuples(), (0, ()), (201, ()), (1, [])]:
            for function in self.functions():
                self.refused(BadWeb, "value", value, function, value, P)
                self.refused(BadWeb, "value", value, function, value, ["yes"])
            for function in (is_kept, fails_by):
                self.refused(BadWeb, "value", value, function, value, 5, -1)

    def test_wrong_sayings(self):
        for value in [*no_tuples(), (), ("letter", 8), ("here", 0)]:
            for function in self.functions():
                self.refused(BadSaying, "path", (), function, LINE, value)
                self.refused(BadSaying, "path", (2,), function, LINE, ("some", -3, value))
                self.refused(BadSaying, "path", (2,), function, GREAT_WEB, ("and", P, value))
            for function in self.functions(3):
                self.refused(BadSaying, "path", (1,), function, LINE, ("not", value))
        for saying, most in ((chain(41), 40), (bush(401), 400)):
            for function in self.functions(-1):
                self.refused(TooGreat, "most", most, function, LINE, saying)

    def test_wrong_worlds(self):
        for value in [-1, 3, 10 ** 5000, OddInteger(0), Touchy(), *no_numbers()]:
            for function in (is_kept, fails_by):
                self.refused(BadWorld, "value", value, function, LINE, P, value)
                self.refused(BadWorld, "value", value, function, LINE, YES, value)

    def test_too_great_is_behind_all_parameters(self):
        web = (13, ())
        for function in (is_kept, fails_by):
            self.refused(BadWorld, "value", 13, function, web, P, 13)
            self.refused(BadWorld, "value", -1, function, web, ("and", P, R), -1)
            self.refused(TooGreat, "most", 12, function, web, P, 12)
        self.refused(TooGreat, "most", 12, fails_by, web, ("or", P, ("not", P)), 0)


if __name__ == "__main__":
    unittest.main()
