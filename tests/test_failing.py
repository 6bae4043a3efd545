"""Point 7, 8 and 25: how a saying fails, told without trying."""

import random
import unittest

from anymarks.errors import BadSaying, BadWeb, BadWorld, TooGreat
from anymarks.failing import failing, is_failing
from anymarks.forms import breaks, fact_worlds
from anymarks.shapes import in_shape, row_of
from anymarks.there import facts_of, form_of
from tests.helpers import (
    GREAT_WEB, LINE, NO, P, Q, R, YES, OddInteger, OddTuple, Refusals, Touchy, bush, chain, eaches, halved,
    markings_of, needs, no_numbers, no_tuples, plain_failing, plain_letters, plainly_holds, saying_by, shaped_by,
    small_webs, somes,
)

NOT_P = ("not", P)
LETTERS = [("letter", letter) for letter in range(8)]
LOOP = ("gives", ("each", 0, P), P)
MEET = ("gives", ("some", 0, ("each", 0, P)), ("each", 0, ("some", 0, P)))
MCKINSEY = ("gives", ("each", 0, ("some", 0, P)), ("some", 0, ("each", 0, P)))
OUT = ("gives", ("each", 0, ("gives", ("each", 0, P), P)), ("each", 0, P))
FORK = (3, ((0, 0, 1), (0, 0, 2), (0, 1, 1)))
ARROW = (2, ((0, 0, 1),))


def is_in_shape(saying):
    try:
        return in_shape(saying)
    except TooGreat:
        return False


def some_cases(chance, many):
    """Sayings in shape with webs in which all markings of their letters can be gone through."""
    webs = [web for web in small_webs() if web[0] <= 4]
    while many > 0:
        saying, web = shaped_by(chance, chance.randint(1, 5)), chance.choice(webs)
        if len(plain_letters(saying)) * web[0] <= 8 and is_in_shape(saying):
            many -= 1
            yield web, saying


class TestFailing(Refusals, unittest.TestCase):
    def test_the_examples(self):
        self.assertEqual(failing(ARROW, LOOP, 0), (0, (0,), ((1,),)))
        self.assertEqual(failing(ARROW, LOOP, 1), (0, (1,), ((),)))
        self.assertEqual(failing(FORK, MEET, 0), (0, (0, 1), ((1,),)))
        self.assertEqual(failing(world=0, saying=MEET, web=FORK), (0, (0, 1), ((1,),)))
        self.no_row(failing, FORK, MEET, 1)
        self.no_row(failing, (1, ((0, 0, 0),)), LOOP, 0)

    def test_items_up_to_the_greatest_letter(self):
        for saying, marking in (
                (NO, ()), (("some", 0, YES), ()), (P, ((),)), (("letter", 7), ((),) * 8), (NOT_P, ((1,),)),
                (("gives", Q, ("some", 0, R)), ((), (1,), ())),
                (("gives", LETTERS[5], LETTERS[2]), ((),) * 5 + ((1,),)),
                (("or", ("not", LETTERS[3]), ("and", LETTERS[6], NO)), ((), (), (), (1,), (), (), ()))):
            self.assertEqual(failing(ARROW, saying, 1), (0, (1,), marking))

    def test_letters_that_need_one_another(self):
        web = (4, ((0, 0, 1), (0, 0, 2), (0, 0, 3), (1, 1, 2), (1, 2, 3)))
        boxes = ("and", ("each", 0, ("gives", ("some", 1, YES), P)), ("and", needs(P, Q), needs(("some", 1, Q), R)))
        self.assertEqual(failing(web, ("gives", boxes, NO), 0), (0, (0,), ((1, 2), (1, 2), (1,))))
        backwards = ("and", ("each", 0, ("gives", ("some", 1, YES), R)), ("and", needs(R, Q), needs(("some", 1, Q), P)))
        self.assertEqual(failing(web, ("gives", backwards, NO), 0), (0, (0,), ((1,), (1, 2), (1, 2))))

    def test_the_first_clause_and_the_least_row(self):
        saying = ("and", ("or", P, NOT_P), ("and", ("each", 0, ("not", ("each", -1, P))), ("gives", P, NO)))
        self.assertEqual(failing(LINE, saying, 2), (2, (2,), ((2,),)))
        self.assertEqual(failing(LINE, saying, 1), (1, (1, 2), ((1,),)))
        spread = ("gives", ("some", 0, ("and", P, ("some", 0, YES))), NO)
        self.assertEqual(failing(FORK, spread, 0), (0, (0, 1), ((1,),)))
        spread = ("gives", ("and", ("some", 0, P), ("some", 0, Q)), ("some", 0, ("and", P, Q)))
        self.assertEqual(failing(FORK, spread, 0), (0, (0, 1, 2), ((1,), (2,))))

    def test_what_letters_become_may_be_too_great(self):
        boxes = P
        for letter in range(7):
            many = LETTERS[letter]
            for _ in range(4):
                many = ("and", many, ("and", LETTERS[letter], LETTERS[letter]))
            boxes = ("and", boxes, needs(many, LETTERS[letter + 1]))
        saying = ("gives", ("and", boxes, ("each", 0, P)), ("some", 0, ("some", 0, P)))
        self.refused(TooGreat, "most", 2000, facts_of, saying, 0)
        self.assertEqual(failing(LINE, saying, 1), (0, (1,), ((1, 2),) + ((2,),) * 7))
        self.assertEqual(failing(LINE, saying, 0), (0, (0,), ((0, 1),) + ((1,),) * 7))
        self.assertIs(is_failing(LINE, saying, 0, ((0, 1),) + ((1,),) * 7), True)

    def test_very_many_boxes(self):
        boxes = halved("and", [P] * 98 + [("each", 0, P)] + [P])
        self.assertEqual(failing(LINE, ("gives", boxes, Q), 0), (0, (0,), ((0, 1), ())))
        self.assertEqual(failing(LINE, ("gives", halved("and", [P] * 198), NO), 2), (0, (2,), ((2,),)))

    def test_the_marking_makes_it_fail_and_is_the_least(self):
        chance = random.Random(91)
        found = {True: 0, False: 0}
        for web, saying in some_cases(chance, 500):
            told = plain_failing(web, saying)
            form = form_of(saying)
            for world in range(web[0]):
                found[told[world] is None] += 1
                if told[world] is None:
                    self.no_row(failing, web, saying, world)
                else:
                    self.check(web, saying, world, form)
        self.assertGreater(min(found.values()), 200)

    def check(self, web, saying, world, form):
        told = failing(web, saying, world)
        self.plain(told)
        clause, worlds, marking = told
        self.assertEqual((clause, worlds), breaks(web, form, world))
        self.assertEqual(len(marking), max(plain_letters(saying), default=-1) + 1)
        self.assertFalse(plainly_holds(web, marking, saying, world), (web, saying, world))
        self.assertIs(is_failing(web, saying, world, marking), True)
        facts = facts_of(saying, clause)
        self.assertEqual(marking, tuple(fact_worlds(web, fact, worlds) for fact in facts[:len(marking)]))
        for fact in facts[len(marking):]:
            self.assertEqual(fact, NO)
        boxes = row_of(saying, clause)[2]
        for other in markings_of(web, saying):
            if all(plainly_holds(web, other, box, worlds[place]) for place, box in boxes):
                # Whoever takes a letter away from one of its worlds breaks a box.
                for least, more in zip(marking, other):
                    self.assertLessEqual(set(least), set(more))


class TestIsFailing(Refusals, unittest.TestCase):
    def test_markings(self):
        for saying in (P, NOT_P, LOOP, MEET, MCKINSEY, OUT, NO, YES, ("gives", P, Q)):
            for web in (LINE, FORK, ARROW, (1, ((0, 0, 0),))):
                for marking in markings_of(web, ("or", saying, ("and", P, Q))):
                    for world in range(web[0]):
                        told = not plainly_holds(web, marking, saying, world)
                        self.assertIs(is_failing(web, saying, world, marking), told)
        self.assertIs(is_failing(value=((), (0,)), world=0, saying=P, web=LINE), True)
        self.assertIs(is_failing(LINE, P, 0, ((0,),) * 8), False)
        self.assertIs(is_failing(LINE, P, 1, ((0,),) * 8), True)

    def test_in_shape_or_not(self):
        chance = random.Random(92)
        for web in small_webs():
            for _ in range(4):
                saying = saying_by(chance, 4, 2)
                marking = chance.choice(list(markings_of((min(web[0], 3), ()), ("and", P, Q))))
                for world in range(web[0]):
                    told = not plainly_holds(web, marking, saying, world)
                    self.assertIs(is_failing(web, saying, world, marking), told)
        met = ("not", P)
        for _ in range(12):
            met = ("some", 0, met)
        self.assertIs(is_failing(LINE, met, 0, ()), True)
        self.assertIs(is_failing((1, ((0, 0, 0),)), met, 0, ()), False)

    def test_values_of_any_kind(self):
        values = [
            *no_tuples(), [(0,)], ([0],), ((1, 0),), ((0, 0),), ((3,),), ((-1,),), ((),) * 9,
            ((True,),), ((0, OddInteger(1)),),
            (OddTuple((0,)),), ((0,), None), (0,), "no", ((0,), ((),)), OddTuple(((0,),)), ((Touchy(),),), {(0,): 1},
            *no_numbers(),
        ]
        for value in values:
            if type(value) is tuple and value == ():
                continue
            for saying in (NO, P, MCKINSEY):
                self.assertIs(is_failing(LINE, saying, 0, value), False)
        for saying, told in ((NO, True), (P, True), (YES, False)):
            self.assertIs(is_failing(LINE, saying, 0, ()), told)

    def test_only_the_other_parameters_are_refused(self):
        for value in ((), [], None, Touchy(), ((5,),)):
            for web in [*no_tuples(), (0, ())]:
                self.refused(BadWeb, "value", web, is_failing, web, 5, -1, value)
            for saying in [*no_tuples(), ("letter", 8)]:
                self.refused(BadSaying, "path", (), is_failing, LINE, saying, -1, value)
            for world in [-1, 3, 10 ** 5000, OddInteger(0), Touchy(), *no_numbers()]:
                self.refused(BadWorld, "value", world, is_failing, LINE, MCKINSEY, world, value)
            for saying, most in ((chain(41), 40), (bush(401), 400)):
                self.refused(TooGreat, "most", most, is_failing, LINE, saying, 5, value)


class TestRefusals(Refusals, unittest.TestCase):
    def test_wrong_parameters(self):
        for web in [*no_tuples(), (0, ()), (201, ())]:
            for saying in (P, 5, MCKINSEY):
                self.refused(BadWeb, "value", web, failing, web, saying, -1)
        for saying in [*no_tuples(), ("letter", 8), ("here", 0)]:
            for world in (0, -1, None, True):
                self.refused(BadSaying, "path", (), failing, LINE, saying, world)
                self.refused(BadSaying, "path", (1,), failing, LINE, ("and", saying, 5), world)
        for world in [-1, 3, 10 ** 5000, OddInteger(0), Touchy(), *no_numbers()]:
            for saying in (P, YES, MCKINSEY, OUT):
                self.refused(BadWorld, "value", world, failing, LINE, saying, world)
        for saying, most in ((chain(41), 40), (bush(401), 400)):
            self.refused(TooGreat, "most", most, failing, LINE, saying, -1)

    def test_those_of_form_of_come_next(self):
        self.refused(TooGreat, "most", 60, failing, LINE, ("not", halved("or", [P] * 61)), 0)
        self.refused(TooGreat, "most", 8, failing, LINE, ("not", somes(8, P)), 0)
        self.out_of_shape(("each", 0, ("some", 0, P)), (), failing, LINE, MCKINSEY, 2)
        self.out_of_shape(None, (0,), failing, LINE, OUT, 2)
        end = P
        for _ in range(7):
            end = ("and", end, end)
        self.refused(TooGreat, "most", 2000, failing, LINE, ("gives", eaches(21, P), end), 0)
        boxes = ("and", eaches(32, P), needs(somes(33, P), Q))
        self.assertEqual(failing(LINE, ("gives", boxes, somes(33, Q)), 2), (0, (2,), ((), ())))
        self.refused(TooGreat, "most", 100, failing, LINE, ("gives", boxes, somes(34, Q)), 2)

    def test_rows_of_worlds_are_counted_ahead_of_work(self):
        web = (200, tuple((0, 0, 1 + step) for step in range(18)))
        three = ("and", ("some", 0, P), ("and", ("some", 0, Q), ("some", 0, R)))
        self.refused(TooGreat, "most", 5000, failing, web, ("not", three), 0)
        self.refused(TooGreat, "most", 5000, failing, web, ("and", P, ("not", three)), 0)
        self.assertEqual(failing(web, ("and", P, ("not", three)), 1), (0, (1,), ((), (), ())))
        self.no_row(failing, web, ("not", three), 1)
        fewer = (200, web[1][:17])
        self.assertEqual(failing(fewer, ("not", three), 0), (0, (0, 1, 1, 1), ((1,), (1,), (1,))))

    def test_no_row_comes_last(self):
        for saying in (YES, ("or", P, NOT_P), ("gives", ("each", 0, P), ("each", 0, P))):
            for web in (LINE, GREAT_WEB):
                for world in range(3):
                    self.no_row(failing, web, saying, world)


if __name__ == "__main__":
    unittest.main()
