"""Point 4 and 14: sayings turned inward and turned about, positive and negative ones."""

import random
import unittest

from anymarks.errors import BadSaying, TooGreat
from anymarks.inward import inward, is_negative, is_positive, turned_about
from anymarks.sayings import holding
from tests.helpers import (
    NO, P, Q, WAYS, YES, Refusals, all_markings, bush, chain, many_sayings, marking_by, no_tuples,
    small_webs,
)

NOT_P, NOT_Q = ("not", P), ("not", Q)
READERS = (inward, turned_about, is_positive, is_negative)


def plainly_inward(saying):
    """The saying turned inward, rule by rule, as point 4 of the document tells them."""
    word = saying[0]
    if word == "gives":
        return plainly_inward(("or", ("not", saying[1]), saying[2]))
    if word in ("and", "or"):
        return (word, plainly_inward(saying[1]), plainly_inward(saying[2]))
    if word in ("each", "some"):
        return (word, saying[1], plainly_inward(saying[2]))
    if word != "not" or saying[1][0] == "letter":
        return saying
    inner = saying[1]
    if inner[0] == "not":
        return plainly_inward(inner[1])
    if inner[0] == "yes":
        return NO
    if inner[0] == "no":
        return YES
    if inner[0] == "and":
        return ("or", plainly_inward(("not", inner[1])), plainly_inward(("not", inner[2])))
    if inner[0] == "or":
        return ("and", plainly_inward(("not", inner[1])), plainly_inward(("not", inner[2])))
    if inner[0] == "each":
        return ("some", inner[1], plainly_inward(("not", inner[2])))
    if inner[0] == "some":
        return ("each", inner[1], plainly_inward(("not", inner[2])))
    return plainly_inward(("not", ("or", ("not", inner[1]), inner[2])))


def has_not(inner):
    """Whether there is a not in an inward saying."""
    return "not" in str(inner)


def has_bare_letter(inner):
    """Whether a letter in an inward saying stands beneath no not."""
    return "letter" in str(inner).replace("('not', ('letter'", "(")


class TestInward(Refusals, unittest.TestCase):
    def test_each_rule(self):
        told = (
            (P, P), (YES, YES), (NO, NO), (NOT_P, NOT_P), (("not", NOT_P), P),
            (("not", ("not", NOT_P)), NOT_P), (("not", YES), NO), (("not", NO), YES),
            (("not", ("and", P, Q)), ("or", NOT_P, NOT_Q)),
            (("not", ("or", P, Q)), ("and", NOT_P, NOT_Q)),
            (("not", ("each", -2, P)), ("some", -2, NOT_P)),
            (("not", ("some", 2, P)), ("each", 2, NOT_P)),
            (("gives", P, Q), ("or", NOT_P, Q)), (("not", ("gives", P, Q)), ("and", P, NOT_Q)),
            (("gives", NOT_P, NOT_Q), ("or", P, NOT_Q)), (("and", YES, ("not", P)), ("and", YES, NOT_P)),
            (("each", 0, ("not", YES)), ("each", 0, NO)),
            (("some", -3, ("gives", NO, P)), ("some", -3, ("or", YES, P))),
        )
        for saying, result in told:
            with self.subTest(saying):
                self.assertEqual(inward(saying), result)
                self.assertEqual(inward(saying=saying), result)
                self.assertEqual(turned_about(("not", saying)), result)

    def test_turned_about(self):
        told = (
            (P, NOT_P), (NOT_P, P), (YES, NO), (NO, YES), (("and", P, NOT_Q), ("or", NOT_P, Q)),
            (("or", P, NOT_Q), ("and", NOT_P, Q)), (("gives", P, Q), ("and", P, NOT_Q)),
        )
        for saying, result in told:
            with self.subTest(saying):
                self.assertEqual(turned_about(saying), result)
                self.assertEqual(turned_about(saying=saying), result)
        for way in WAYS:
            self.assertEqual(turned_about(("each", way, P)), ("some", way, NOT_P))
            self.assertEqual(turned_about(("some", way, P)), ("each", way, NOT_P))

    def test_as_the_document_tells(self):
        for saying in many_sayings():
            told = (inward(saying), turned_about(saying))
            self.plain(told)
            self.assertEqual(told, (plainly_inward(saying), plainly_inward(("not", saying))))

    def test_the_result_may_be_greater_than_a_saying(self):
        broad, deep = [P] * 200, P
        while len(broad) > 1:
            pairs = [("gives", first, second) for first, second in zip(broad[::2], broad[1::2])]
            broad = pairs + broad[len(pairs) * 2:]
        for _ in range(39):
            deep = ("gives", deep, P)
        for saying in (broad[0], deep):
            self.assertEqual(inward(saying), plainly_inward(saying))
            self.assertEqual(turned_about(saying), plainly_inward(("not", saying)))
        self.refused(TooGreat, "most", 400, inward, inward(broad[0]))
        self.refused(TooGreat, "most", 40, inward, inward(deep))

    def test_holds_where_the_saying_does_and_where_it_does_not(self):
        chance = random.Random(14)
        sayings = many_sayings()
        for web in small_webs():
            worlds = tuple(range(web[0]))
            for saying in chance.sample(sayings, 25):
                marking = marking_by(chance, web[0], 3)
                held = holding(web, marking, saying)
                self.assertEqual(holding(web, marking, inward(saying)), held)
                others = tuple([world for world in worlds if world not in held])
                self.assertEqual(holding(web, marking, turned_about(saying)), others)

    def test_turned_about_twice(self):
        for saying in many_sayings():
            self.assertEqual(turned_about(turned_about(saying)), inward(saying))
            self.assertEqual(inward(inward(saying)), inward(saying))
            self.assertEqual(inward(turned_about(saying)), turned_about(saying))


class TestSides(unittest.TestCase):
    def test_sides(self):
        told = (
            (P, True, False), (NOT_P, False, True), (YES, True, True), (NO, True, True),
            (("not", YES), True, True), (("gives", P, Q), False, False), (("gives", YES, P), True, False),
            (("gives", P, NO), False, True), (("and", P, NOT_Q), False, False),
            (("and", NOT_P, NOT_Q), False, True), (("not", ("gives", P, NOT_Q)), True, False),
            (("gives", NOT_P, Q), True, False), (("each", 0, ("not", NOT_P)), True, False),
            (("some", -1, ("not", ("some", 0, YES))), True, True), (("or", YES, NOT_P), False, True),
            (("or", NO, P), True, False), (("and", NOT_P, P), False, False),
        )
        for saying, positive, negative in told:
            with self.subTest(saying):
                self.assertIs(is_positive(saying), positive)
                self.assertIs(is_negative(saying), negative)
                self.assertIs(is_positive(saying=saying), positive)
                self.assertIs(is_negative(saying=saying), negative)

    def test_as_the_document_tells(self):
        for saying in many_sayings():
            inner = plainly_inward(saying)
            self.assertIs(is_positive(saying), not has_not(inner))
            self.assertIs(is_negative(saying), not has_bare_letter(inner))
            self.assertIs(is_positive(("not", saying)), is_negative(saying))

    def test_positive_ones_only_gain_and_negative_ones_only_lose(self):
        webs = [(1, ((0, 0, 0),)), (2, ((0, 0, 1),)), (2, ((0, 0, 0), (0, 1, 0), (1, 0, 1)))]
        for saying in many_sayings()[:260]:
            sides = (is_positive(saying), is_negative(saying))
            if True not in sides:
                continue
            for web in webs:
                self.kept_to(sides, web, saying)

    def kept_to(self, sides, web, saying):
        held = {
            marking: set(holding(web, marking, saying)) for marking in all_markings(web[0], 2)
        }
        for less, fewer in held.items():
            for more, others in held.items():
                if all(set(first) <= set(second) for first, second in zip(less, more)):
                    self.assertTrue(not sides[0] or fewer <= others)
                    self.assertTrue(not sides[1] or others <= fewer)


class TestRefusals(Refusals, unittest.TestCase):
    def test_wrong_sayings(self):
        for reader in READERS:
            for value in [*no_tuples(), (), ("letter", 8), ("not", P, P), ("each", 3, P)]:
                self.refused(BadSaying, "path", (), reader, value)
                self.refused(BadSaying, "path", (1, 2), reader, ("not", ("and", P, value)))

    def test_too_great_sayings(self):
        for reader in READERS:
            self.refused(TooGreat, "most", 400, reader, bush(401))
            self.refused(TooGreat, "most", 40, reader, chain(41))
            reader(bush(400))
            reader(chain(40))


if __name__ == "__main__":
    unittest.main()
