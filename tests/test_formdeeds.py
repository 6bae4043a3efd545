"""Point 23: forms made of forms."""

import random
import unittest

from anymarks.errors import BadForm, BadWay, TooGreat
from anymarks.formdeeds import both_forms, either_forms, under_way
from anymarks.forms import breaks, form_worlds, need_form
from tests.helpers import (
    LINE, NO, P, WAYS, YES, OddInteger, Refusals, Touchy, fact_by, form_by, no_numbers, no_tuples, plainly_led,
    small_webs, tall_fact, tree_by, wide_fact,
)

TWO_STEPS = (((0, 0), (1, 0)), (("some", 0, ("here", 2)), NO, NO))
GOES_ALL_THROUGH = (TWO_STEPS,)
ARROW_ON = (((), (("some", 0, YES),)),)
EMPTY = ((), (NO,))
HERE = ("here", 0)


def line_of(many, fact=NO):
    """A clause of so many worlds, a fact at the last one."""
    return (tuple((place, 0) for place in range(many - 1)), (NO,) * (many - 1) + (fact,))


def wrong_forms():
    """Values that are no forms, with the place."""
    found = [(value, ()) for value in no_tuples() if type(value) is not tuple or not value]
    found.extend([((EMPTY,) * 61, ()), ((EMPTY, 5), (1,)), (EMPTY, (0,)), ([EMPTY], ()), ((), ())])
    found.extend([((EMPTY, (((1, 0),), (NO, NO))), (1, 0, 0)), ((((), (P,)),), (0, 1, 0))])
    found.append(((((), (["no"],)),), (0, 1, 0)))
    return found


class TestBoth(Refusals, unittest.TestCase):
    def test_clauses_of_both(self):
        self.assertEqual(both_forms(GOES_ALL_THROUGH, ARROW_ON), GOES_ALL_THROUGH + ARROW_ON)
        self.assertEqual(both_forms(other=GOES_ALL_THROUGH, form=ARROW_ON), ARROW_ON + GOES_ALL_THROUGH)
        self.assertEqual(both_forms((EMPTY,), (EMPTY,)), (EMPTY, EMPTY))

    def test_where_both_hold(self):
        chance = random.Random(71)
        for web in small_webs():
            for _ in range(3):
                form, other = form_by(chance), form_by(chance)
                told = both_forms(form, other)
                self.plain(told)
                self.assertIs(need_form(told), told)
                both = set(form_worlds(web, form)) & set(form_worlds(web, other))
                self.assertEqual(form_worlds(web, told), tuple(sorted(both)))

    def test_bounds(self):
        for first, second in ((59, 1), (1, 59), (30, 30)):
            self.assertEqual(both_forms((EMPTY,) * first, (EMPTY,) * second), (EMPTY,) * 60)
        for first, second in ((60, 1), (1, 60), (30, 31), (60, 60)):
            self.refused(TooGreat, "most", 60, both_forms, (EMPTY,) * first, (EMPTY,) * second)
        full, half = ((), (wide_fact(2000),)), ((), (wide_fact(1000),))
        self.assertEqual(both_forms((half,), (half,)), (half, half))
        self.assertEqual(len(both_forms((((), (wide_fact(1999),)),), (EMPTY,))), 2)
        self.refused(TooGreat, "most", 2000, both_forms, (full,), (EMPTY,))
        self.refused(TooGreat, "most", 2000, both_forms, (half, EMPTY), (half,))
        held = ((((0, 0),), (wide_fact(1997), NO)),)
        self.assertEqual(len(both_forms((EMPTY,) * 2, held)), 3)
        self.refused(TooGreat, "most", 2000, both_forms, (EMPTY,) * 3, held)
        self.refused(TooGreat, "most", 60, both_forms, (full,), (EMPTY,) * 60)


class TestEither(Refusals, unittest.TestCase):
    def test_the_example(self):
        told = either_forms(GOES_ALL_THROUGH, under_way(0, ARROW_ON))
        self.assertEqual(told[0][0], ((0, 0), (1, 0), (0, 0)))
        self.assertEqual(told, ((((0, 0), (1, 0), (0, 0)), (("some", 0, ("here", 2)), NO, NO, ("some", 0, YES))),))
        self.assertEqual(either_forms(GOES_ALL_THROUGH, ARROW_ON)[0][0], ((0, 0), (1, 0)))

    def test_facts_at_the_first_world(self):
        for first, second, told in (
                (NO, NO, NO), (YES, NO, YES), (NO, YES, YES), (YES, HERE, ("or", YES, HERE)),
                (HERE, YES, ("or", HERE, YES)), (("or", NO, NO), NO, ("or", NO, NO)),
                (NO, ("and", NO, NO), ("and", NO, NO)),
                (("or", NO, NO), ("and", NO, NO), ("or", ("or", NO, NO), ("and", NO, NO)))):
            self.assertEqual(either_forms((((), (first,)),), (((), (second,)),)), (((), (told,)),))

    def test_worlds_of_the_other_form_are_numbered_behind(self):
        form = ((((0, 1), (0, 2)), (("here", 2), ("here", 0), ("some", 0, ("here", 1)))),)
        facts = (("or", HERE, ("here", 3)), ("here", 1), ("each", 2, ("here", 0)), ("here", 2))
        other = ((((0, -1), (1, -2), (0, -3)), facts),)
        told = either_forms(form, other)
        self.assertEqual(told, ((
            ((0, 1), (0, 2), (0, -1), (3, -2), (0, -3)),
            (("or", ("here", 2), ("or", HERE, ("here", 5))), HERE, ("some", 0, ("here", 1)), ("here", 3),
             ("each", 2, HERE), ("here", 4)),
        ),))
        self.assertEqual(either_forms(other=other, form=form), told)

    def test_each_clause_with_each(self):
        facts = [("some", way, YES) for way in WAYS]
        form = tuple(((), (fact,)) for fact in facts[:2])
        other = tuple(((), (fact,)) for fact in facts[2:5])
        told = [("or", first, second) for first in facts[:2] for second in facts[2:5]]
        self.assertEqual(either_forms(form, other), tuple(((), (fact,)) for fact in told))

    def test_where_one_or_the_other_holds(self):
        chance = random.Random(72)
        for web in small_webs():
            for _ in range(4):
                form, other = form_by(chance, 2, 2), form_by(chance, 2, 2)
                told = either_forms(form, other)
                self.plain(told)
                self.assertIs(need_form(told), told)
                either = set(form_worlds(web, form)) | set(form_worlds(web, other))
                self.assertEqual(form_worlds(web, told), tuple(sorted(either)), (web, form, other))

    def test_sixty_clauses(self):
        for first, second in ((60, 1), (1, 60), (6, 10), (12, 5)):
            self.assertEqual(either_forms((EMPTY,) * first, (EMPTY,) * second), (EMPTY,) * 60)
        for first, second in ((30, 3), (8, 8), (60, 60), (31, 2)):
            self.refused(TooGreat, "most", 60, either_forms, (EMPTY,) * first, (EMPTY,) * second)

    def test_eight_worlds(self):
        for first, second in ((8, 1), (1, 8), (4, 5), (5, 4), (2, 7)):
            self.assertEqual(len(either_forms((line_of(first),), (line_of(second),))[0][1]), 8)
        for first, second in ((8, 2), (2, 8), (5, 5), (8, 8)):
            self.refused(TooGreat, "most", 8, either_forms, (line_of(first),), (line_of(second),))
        self.refused(TooGreat, "most", 8, either_forms, (EMPTY, line_of(5)), (line_of(4), line_of(5)))

    def test_two_thousand_words(self):
        for first, second, fits in (
                (wide_fact(1000), wide_fact(999), True), (wide_fact(1000), wide_fact(1000), False),
                (wide_fact(2000), NO, True), (NO, wide_fact(2000), True), (wide_fact(1), wide_fact(1998), True),
                (wide_fact(1), wide_fact(1999), False)):
            forms = (((), (first,)),), (((), (second,)),)
            if fits:
                self.assertLessEqual(words_of_form(either_forms(*forms)), 2000)
            else:
                self.refused(TooGreat, "most", 2000, either_forms, *forms)
        # Each clause of the one form stands in the result as often as the other one has clauses.
        great = ((), (wide_fact(999),))
        self.assertEqual(words_of_form(either_forms((great,), (EMPTY, EMPTY))), 1998)
        self.assertEqual(words_of_form(either_forms((great,), (EMPTY, ((), (HERE,))))), 2000)
        self.refused(TooGreat, "most", 2000, either_forms, (great,), (((), (HERE,)), ((), (HERE,))))
        self.refused(TooGreat, "most", 2000, either_forms, (great, EMPTY), (((), (HERE,)), EMPTY, ((), (YES,))))
        further = (((0, 0),), (NO, wide_fact(998)))
        self.assertEqual(words_of_form(either_forms((further,), (further,))), 1997)
        further = (((0, 0),), (NO, wide_fact(1000)))
        self.refused(TooGreat, "most", 2000, either_forms, (further,), (further,))

    def test_no_counts_at_the_first_world_alone(self):
        for facts, words in (((wide_fact(1000), NO), 998), ((NO, wide_fact(1000)), 1000), ((NO, NO), 1999)):
            clause = (((0, 1),), facts)
            for fits in (True, False):
                other = ((), (wide_fact(words if fits else words + 1),))
                for form, further in (((clause,), (other,)), ((other,), (clause,))):
                    if fits:
                        self.assertEqual(words_of_form(either_forms(form, further)), 2000)
                    else:
                        self.refused(TooGreat, "most", 2000, either_forms, form, further)

    def test_just_so_many_words(self):
        for first_words, second_words in ((1000, 999), (1, 998), (700, 1200)):
            first, second = wide_fact(first_words), wide_fact(second_words)
            told = either_forms((((), (first,)),), (((), (second,)),))
            self.assertEqual(words_of_form(told), first_words + second_words + 1)

    def test_a_hundred_deep(self):
        deep = ((), (tall_fact(100),))
        self.assertEqual(either_forms((deep,), (EMPTY,)), (deep,))
        self.assertEqual(either_forms((EMPTY,), (deep,)), (deep,))
        self.assertEqual(len(either_forms((((), (tall_fact(99),)),), (((), (tall_fact(99),)),))), 1)
        for other in (((), (HERE,)), deep, ((), (("or", NO, NO),))):
            self.refused(TooGreat, "most", 100, either_forms, (deep,), (other,))
            self.refused(TooGreat, "most", 100, either_forms, (other,), (deep,))
            self.refused(TooGreat, "most", 100, either_forms, (EMPTY, deep), (EMPTY, EMPTY, other))
        # At other worlds facts are as deep as they were.
        held = ((((0, 0),), (YES, tall_fact(100))),)
        self.assertEqual(either_forms(held, held)[0][1][0], ("or", YES, YES))

    def test_which_is_told_first(self):
        deep, broad, long = ((), (tall_fact(100),)), ((), (wide_fact(1500),)), line_of(5)
        many = (deep, broad, long) + (EMPTY,) * 5
        self.refused(TooGreat, "most", 60, either_forms, many, (deep, long) + (EMPTY,) * 6)
        self.refused(TooGreat, "most", 8, either_forms, (deep, broad, long), (deep, long))
        self.refused(TooGreat, "most", 2000, either_forms, (deep, broad), (deep, EMPTY, EMPTY))
        self.refused(TooGreat, "most", 100, either_forms, (deep,), (deep, EMPTY, EMPTY))


def words_of_form(form):
    def count(fact):
        return 1 + sum(count(part) for part in fact if isinstance(part, tuple))
    return sum(count(fact) for _, facts in form for fact in facts)


class TestUnderWay(Refusals, unittest.TestCase):
    def test_the_example(self):
        told = under_way(0, ARROW_ON)
        self.assertEqual(told, ((((0, 0),), (NO, ("some", 0, YES))),))
        self.assertEqual(form_worlds(LINE, told), (0, 2))
        self.assertEqual(form_worlds(LINE, GOES_ALL_THROUGH), (1, 2))
        self.assertEqual(breaks(LINE, GOES_ALL_THROUGH, 0), (0, (0, 1, 2)))

    def test_all_others_one_number_more(self):
        told = under_way(-3, (EMPTY, TWO_STEPS))
        self.assertEqual(told, (
            (((0, -3),), (NO, NO)), (((0, -3), (1, 0), (2, 0)), (NO, ("some", 0, ("here", 3)), NO, NO))))
        form = ((((0, 1), (0, 2)), (("and", HERE, ("here", 2)), ("each", -1, ("or", YES, ("here", 1))), NO)),)
        told = ((((0, 2), (1, 1), (1, 2)), (
            NO, ("and", ("here", 1), ("here", 3)), ("each", -1, ("or", YES, ("here", 2))), NO)),)
        self.assertEqual(under_way(form=form, way=2), told)

    def test_where_the_form_holds_at_each_world(self):
        chance = random.Random(73)
        for web in small_webs():
            for way in WAYS:
                form = form_by(chance, 2, 3)
                told = under_way(way, form)
                self.plain(told)
                self.assertIs(need_form(told), told)
                held = form_worlds(web, form)
                worlds = [world for world in range(web[0]) if set(plainly_led(web, way, world)) <= set(held)]
                self.assertEqual(form_worlds(web, told), tuple(worlds), (web, way, form))

    def test_bounds(self):
        self.assertEqual(len(under_way(0, (line_of(7),))[0][1]), 8)
        self.refused(TooGreat, "most", 8, under_way, 0, (line_of(8),))
        self.refused(TooGreat, "most", 8, under_way, 0, (EMPTY, line_of(8), line_of(7)))
        self.assertEqual(len(under_way(0, (EMPTY,) * 60)), 60)
        self.assertEqual(words_of_form(under_way(0, (((), (wide_fact(1999),)),))), 2000)
        self.refused(TooGreat, "most", 2000, under_way, 0, (((), (wide_fact(2000),)),))
        parts = tuple(((), (wide_fact(500),)) for _ in range(3))
        self.assertEqual(words_of_form(under_way(0, parts + (((), (wide_fact(496),)),))), 2000)
        self.refused(TooGreat, "most", 2000, under_way, 0, parts + (((), (wide_fact(497),)),))
        self.refused(TooGreat, "most", 8, under_way, 0, (((), (wide_fact(1992),)), line_of(8)))
        self.assertEqual(under_way(0, (((), (tall_fact(100),)),))[0][1][1], moved(tall_fact(100)))


def moved(fact):
    if fact[0] == "here":
        return ("here", fact[1] + 1)
    return tuple(moved(part) if isinstance(part, tuple) else part for part in fact)


class TestRefusals(Refusals, unittest.TestCase):
    def test_wrong_forms(self):
        for value, place in [*wrong_forms(), (Touchy(), ()), ((Touchy(),), (0,))]:
            for function in (both_forms, either_forms):
                self.refused(BadForm, "place", place, function, value, ARROW_ON)
                self.refused(BadForm, "place", place, function, ARROW_ON, value)
                self.refused(BadForm, "place", place, function, value, (5,))
                self.refused(BadForm, "place", place, function, value, 5)
                # What is too great is told behind both parameters.
                self.refused(BadForm, "place", place, function, (EMPTY,) * 60, value)
            self.refused(BadForm, "place", place, under_way, -3, value)
        for fact, most in ((tall_fact(101), 100), (wide_fact(2001), 2000)):
            wrong = (((), (fact,)),)
            for function in (both_forms, either_forms):
                self.refused(TooGreat, "most", most, function, wrong, 5)
                self.refused(TooGreat, "most", most, function, (EMPTY,) * 60, wrong)
            self.refused(TooGreat, "most", most, under_way, 2, wrong)

    def test_wrong_ways(self):
        for value in [-4, 3, 10 ** 5000, OddInteger(0), Touchy(), *no_numbers()]:
            for form in (ARROW_ON, (), None, (line_of(8),), (((), (P,)),), Touchy()):
                self.refused(BadWay, "value", value, under_way, value, form)
        for way in WAYS:
            self.assertEqual(under_way(way, (EMPTY,)), ((((0, way),), (NO, NO)),))

    def test_great_forms(self):
        chance = random.Random(74)
        tree = tree_by(chance, 3)
        form = tuple((tree, tuple(fact_by(chance, 2, 4) for _ in range(4))) for _ in range(12))
        self.assertEqual(len(either_forms(form, form[:5])), 60)


if __name__ == "__main__":
    unittest.main()
