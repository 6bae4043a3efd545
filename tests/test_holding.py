"""Point 3 and 13: markings, and where sayings hold under them."""

import random
import unittest

from anymarks.errors import BadMarking, BadSaying, BadWeb, BadWorld, TooGreat
from anymarks.sayings import holding, holds, need_marking
from tests.helpers import (
    GREAT_WEB, LINE, NO, P, Q, R, YES, OddInteger, Refusals, Touchy, all_markings, bush, chain,
    many_sayings, marking_by, no_numbers, no_tuples, plainly_holds, small_webs,
)

KNOT = (4, ((0, 0, 1), (0, 0, 2), (0, 2, 2), (1, 1, 0), (2, 3, 1)))


def wrong_markings():
    """Values that are no markings of a web of three worlds."""
    found = [*no_tuples(), [(0,)], ([0],), ((0,), [1]), "0", ((),) * 9, ((0,),) * 9, ((),) * 100000]
    found.extend([((1, 0),), ((0, 0),), ((0, 2, 1),), ((0, 1, 2, 2),), ((0, 1, 2, 3),), ((3,),), ((-1,),)])
    found.extend([((), (1, 0)), ((0,),) * 7 + ((2, 2),), (tuple(range(100000)),)])
    for wrong in [10 ** 5000, OddInteger(1), *no_numbers()]:
        found.extend([((wrong,),), ((0, wrong),), ((), (wrong, 2))])
    found.extend([(value,) for value in no_tuples()])
    return found


class TestNeedMarking(Refusals, unittest.TestCase):
    def test_markings_come_back_as_handed_in(self):
        for marking in ((), ((),), ((0, 1, 2),) * 8, ((),) * 8, ((2,), (), (0, 2), (1,))):
            self.assertIs(need_marking(LINE, marking), marking)
            self.assertIs(need_marking(marking=marking, web=LINE), marking)
        great = (tuple(range(200)), (199,), (0,))
        self.assertIs(need_marking(GREAT_WEB, great), great)

    def test_other_values(self):
        for value in wrong_markings():
            self.refused(BadMarking, "value", value, need_marking, LINE, value)

    def test_worlds_are_those_of_the_web(self):
        marking = ((1,),)
        self.assertIs(need_marking((2, ()), marking), marking)
        self.refused(BadMarking, "value", marking, need_marking, (1, ()), marking)

    def test_the_web_comes_first(self):
        for value in [*no_tuples(), (0, ()), (201, ())]:
            self.refused(BadWeb, "value", value, need_marking, value, ())
            self.refused(BadWeb, "value", value, need_marking, value, [])


class TestHolding(Refusals, unittest.TestCase):
    def test_each_word(self):
        marking = ((0, 1), (1, 2))
        told = (
            (P, (0, 1)), (Q, (1, 2)), (R, ()), (YES, (0, 1, 2, 3)), (NO, ()), (("not", P), (2, 3)),
            (("and", P, Q), (1,)), (("or", P, Q), (0, 1, 2)), (("gives", P, Q), (1, 2, 3)),
            (("gives", Q, P), (0, 1, 3)), (("each", 0, Q), (0, 1, 2, 3)), (("some", 0, Q), (0, 2)),
            (("each", 0, P), (1, 3)), (("some", 0, P), (0,)), (("each", -1, P), (0, 1, 3)),
            (("some", -1, P), (1, 2)), (("some", 1, P), (1,)), (("some", -2, P), (0,)),
            (("some", 2, P), (3,)), (("each", -3, NO), (0, 2, 3)), (("some", -3, YES), (1,)),
        )
        for saying, worlds in told:
            with self.subTest(saying):
                self.assertEqual(holding(KNOT, marking, saying), worlds)
                self.assertEqual(holding(saying=saying, web=KNOT, marking=marking), worlds)

    def test_letters_beyond_the_end_hold_nowhere(self):
        for letter in range(8):
            saying = ("letter", letter)
            for many in range(9):
                worlds = (0, 1, 2) if letter < many else ()
                self.assertEqual(holding(LINE, ((0, 1, 2),) * many, saying), worlds)

    def test_each_letter_is_its_own(self):
        for letter in range(8):
            marking = ((),) * letter + ((1,),)
            self.assertEqual(holding(LINE, marking, ("letter", letter)), (1,))
            self.assertEqual(holding(LINE, marking, ("letter", (letter + 1) % 8)), ())

    def test_nothing_led_to(self):
        self.assertEqual(holding((1, ()), (), ("each", 0, NO)), (0,))
        self.assertEqual(holding((1, ()), (), ("some", 0, YES)), ())

    def test_as_the_document_tells(self):
        chance = random.Random(13)
        sayings = many_sayings()
        for web in small_webs():
            for saying in chance.sample(sayings, 25):
                marking = marking_by(chance, web[0], chance.randrange(4))
                worlds = range(web[0])
                told = [world for world in worlds if plainly_holds(web, marking, saying, world)]
                found = holding(web, marking, saying)
                self.plain(found)
                self.assertEqual(found, tuple(told))
                for world in worlds:
                    self.assertIs(holds(web, marking, saying, world), world in told)

    def test_under_all_markings(self):
        web = (2, ((0, 0, 1), (1, 1, 1)))
        for marking in all_markings(2, 2):
            for saying in many_sayings()[:150]:
                told = [world for world in (0, 1) if plainly_holds(web, marking, saying, world)]
                self.assertEqual(holding(web, marking, saying), tuple(told))

    def test_by_name(self):
        self.assertIs(holds(world=1, saying=P, marking=((1,),), web=LINE), True)
        self.assertIs(holds(world=0, saying=P, marking=((1,),), web=LINE), False)


class TestRefusals(Refusals, unittest.TestCase):
    def test_wrong_webs(self):
        for value in [*no_tuples(), (0, ()), (201, ()), (1, [])]:
            self.refused(BadWeb, "value", value, holding, value, (), P)
            self.refused(BadWeb, "value", value, holding, value, [], ("letter", 8))
            self.refused(BadWeb, "value", value, holds, value, (), P, 0)
            self.refused(BadWeb, "value", value, holds, value, [], P, 0)
            self.refused(BadWeb, "value", value, holds, value, (), 5, -1)

    def test_wrong_markings(self):
        for value in wrong_markings():
            self.refused(BadMarking, "value", value, holding, LINE, value, P)
            self.refused(BadMarking, "value", value, holding, LINE, value, ("letter", 8))
            self.refused(BadMarking, "value", value, holds, LINE, value, P, 0)
            self.refused(BadMarking, "value", value, holds, LINE, value, P, 3)
            self.refused(BadMarking, "value", value, holds, LINE, value, chain(41), 0)

    def test_wrong_sayings(self):
        for value in [*no_tuples(), (), ("letter", 8), ("here", 0)]:
            self.refused(BadSaying, "path", (), holding, LINE, (), value)
            self.refused(BadSaying, "path", (2,), holding, LINE, (), ("each", 0, value))
            self.refused(BadSaying, "path", (), holds, LINE, (), value, 0)
            self.refused(BadSaying, "path", (), holds, LINE, (), value, 3)
        for saying, most in ((chain(41), 40), (bush(401), 400)):
            self.refused(TooGreat, "most", most, holding, LINE, (), saying)
            self.refused(TooGreat, "most", most, holds, LINE, (), saying, 0)
            self.refused(TooGreat, "most", most, holds, LINE, (), saying, 3)

    def test_wrong_worlds(self):
        for value in [-1, 3, 10 ** 5000, OddInteger(0), Touchy(), *no_numbers()]:
            self.refused(BadWorld, "value", value, holds, LINE, (), P, value)


if __name__ == "__main__":
    unittest.main()
