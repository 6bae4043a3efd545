"""Point 5 and 21: facts, clauses, forms, and how they are checked."""

import random
import unittest

from anymarks.errors import BadFact, BadForm, BadParameter, TooGreat
from anymarks.forms import need_fact, need_form
from tests.helpers import (
    NO, P, WAYS, YES, OddInteger, OddText, OddTuple, Refusals, Touchy, fact_by, form_by, no_numbers, no_tuples,
    tall_fact, tree_by, wide_fact,
)

HERE = ("here", 0)
BRANCHES = tuple((place, 0) for place in range(7))
EMPTY = ((), (NO,))


def wrong_facts():
    """Values that are no facts in themselves, whatever number of worlds there is."""
    found = [*no_tuples(), (), ((),), (YES,), P, ("not", YES), ("gives", YES, YES), ("letter",), ("letter", 0, 0)]
    for words in (
            ("here",), ("here", 0, 0), ("yes", YES), ("no", NO), ("and",), ("and", YES), ("and", YES, YES, YES),
            ("or", YES), ("or", YES, YES, YES), ("each", YES), ("each", 0), ("each", 0, YES, YES), ("some", YES),
            ("some", 0), ("some", 0, YES, YES), ("here", "0"), ["here", 0], ["no"], "no", ("Here", 0), ("heres", 0)):
        found.append(words)
    for word in ("", "yes ", b"no", OddText("no"), OddText("odd"), 0, None, True, ("no",), ["no"], {}, Touchy()):
        found.extend([(word,), (word, 0), (word, YES), (word, YES, YES), (word, 0, YES)])
    for number in [-1, 8, 9, 10 ** 5000, OddInteger(0), *no_numbers()]:
        found.append(("here", number))
    for number in [-4, 3, 10 ** 5000, OddInteger(0), *no_numbers(), YES]:
        found.extend([("each", number, YES), ("some", number, YES)])
    return found


class TestNeedFact(Refusals, unittest.TestCase):
    def test_facts_come_back_as_handed_in(self):
        chance = random.Random(51)
        for turn in range(300):
            many = 1 + turn % 8
            fact = fact_by(chance, 1 + turn % 6, many)
            self.assertIs(need_fact(fact, many), fact)
            self.assertIs(need_fact(many=many, fact=fact), fact)

    def test_each_word(self):
        for fact in (YES, NO, HERE, ("and", YES, HERE), ("or", NO, HERE), ("each", 2, HERE), ("some", -3, NO)):
            self.assertIs(need_fact(fact, 1), fact)
        for way in WAYS:
            for word in ("each", "some"):
                self.assertEqual(need_fact((word, way, YES), 8), (word, way, YES))

    def test_here(self):
        for many in range(1, 9):
            for place in range(many):
                self.assertEqual(need_fact(("here", place), many), ("here", place))
            for place in (many, many + 1, 8, -1):
                self.refused(BadFact, "path", (), need_fact, ("here", place), many)
                self.refused(BadFact, "path", (2, 1), need_fact, ("or", HERE, ("and", ("here", place), 5)), many)

    def test_wrong_in_itself(self):
        for value in wrong_facts():
            for many in (1, 8):
                self.refused(BadFact, "path", (), need_fact, value, many)
            for word in ("and", "or"):
                self.refused(BadFact, "path", (1,), need_fact, (word, value, YES), 2)
                self.refused(BadFact, "path", (1,), need_fact, (word, value, value), 2)
                self.refused(BadFact, "path", (2,), need_fact, (word, YES, value), 2)
            for word in ("each", "some"):
                self.refused(BadFact, "path", (2,), need_fact, (word, -1, value), 2)

    def test_the_walk(self):
        within = ("and", HERE, ("each", 0, ("or", ("some", -3, 5), P)))
        self.refused(BadFact, "path", (2, 2, 1, 2), need_fact, within, 1)
        self.refused(BadFact, "path", (), need_fact, ("each", 3, ("here", 9)), 8)
        self.refused(BadFact, "path", (1, 2), need_fact, ("and", ("or", YES, P), ("or", P, YES)), 1)

    def test_wrong_many_is_ahead_of_all_else(self):
        for value in [-1, 0, 9, 10 ** 5000, OddInteger(1), Touchy(), *no_numbers()]:
            for fact in (YES, HERE, ("here", 9), None, [], Touchy(), tall_fact(101), wide_fact(2001)):
                self.refused(BadParameter, "value", value, need_fact, fact, value)
            self.refused(BadParameter, "value", value, need_fact, fact=[], many=value)

    def test_a_hundred_deep(self):
        self.assertEqual(need_fact(tall_fact(100), 1), tall_fact(100))
        for deep in (101, 102, 5000):
            self.refused(TooGreat, "most", 100, need_fact, tall_fact(deep), 1)
        for end in (5, ("here", 1), Touchy()):
            self.refused(BadFact, "path", (2,) * 99, need_fact, tall_fact(100, end), 1)
            self.refused(TooGreat, "most", 100, need_fact, tall_fact(101, end), 1)
        for word in ("and", "or"):
            self.assertEqual(need_fact((word, YES, tall_fact(99)), 1), (word, YES, tall_fact(99)))
            self.refused(TooGreat, "most", 100, need_fact, (word, tall_fact(100), 5), 1)
            self.refused(TooGreat, "most", 100, need_fact, (word, YES, tall_fact(100)), 1)

    def test_two_thousand_words(self):
        for words in (1, 2, 3, 1999, 2000):
            self.assertEqual(need_fact(wide_fact(words), 1), wide_fact(words))
        for words in (2001, 2002, 20000):
            self.refused(TooGreat, "most", 2000, need_fact, wide_fact(words), 1)
        self.refused(BadFact, "path", (2,), need_fact, ("and", wide_fact(1998), 5), 1)
        self.refused(TooGreat, "most", 2000, need_fact, ("and", wide_fact(1999), 5), 1)

    def test_what_is_met_first_is_told(self):
        deep, broad, wrong = tall_fact(101), wide_fact(2001), ("here", 8)
        for first, second, told in (
                (deep, broad, 100), (broad, deep, 2000), (deep, wrong, 100), (broad, wrong, 2000)):
            self.refused(TooGreat, "most", told, need_fact, ("or", first, second), 8)
        for second in (deep, broad):
            self.refused(BadFact, "path", (1,), need_fact, ("or", wrong, second), 8)
        # The 2,001st thing met is the 101st on the way to it, too.
        self.refused(TooGreat, "most", 100, need_fact, ("or", wide_fact(1900), tall_fact(100)), 1)
        self.refused(TooGreat, "most", 2000, need_fact, ("or", wide_fact(1901), tall_fact(100)), 1)


class TestNeedForm(Refusals, unittest.TestCase):
    def test_forms_come_back_as_handed_in(self):
        chance = random.Random(52)
        for turn in range(300):
            form = form_by(chance, 1 + turn % 5, turn % 8)
            self.assertIs(need_form(form), form)
            self.assertIs(need_form(form=form), form)

    def test_sixty_clauses_and_more(self):
        for many in (1, 2, 59, 60):
            self.assertEqual(need_form((EMPTY,) * many), (EMPTY,) * many)
        for many in (0, 61, 62, 100000):
            self.refused(BadForm, "place", (), need_form, (EMPTY,) * many)
        self.refused(BadForm, "place", (), need_form, (5,) * 61)

    def test_no_forms(self):
        for value in no_tuples():
            if type(value) is tuple and value:
                self.refused(BadForm, "place", (0,), need_form, value)
            else:
                self.refused(BadForm, "place", (), need_form, value)
        for value in ([EMPTY], {EMPTY: 1}, iter((EMPTY,)), OddTuple((EMPTY,)), "form", ()):
            self.refused(BadForm, "place", (), need_form, value)

    def test_no_clauses(self):
        wrong = [*no_tuples(), (), (EMPTY,), ((),), ((), (NO,), ()), [(), (NO,)], OddTuple(EMPTY)]
        wrong.extend([((), ()), ((), (NO, NO)), (((0, 0),), (NO,)), (((0, 0),), (NO, NO, NO)), ((), [NO]), ([], (NO,))])
        wrong.extend([((0, 0), (NO,)), ((), NO + NO), (OddTuple(), (NO,)), ((), OddTuple((NO,))), (None, None)])
        wrong.extend([(BRANCHES + ((7, 0),), (NO,) * 9), (BRANCHES, (NO,) * 7), (BRANCHES, (NO,) * 9), ("", ("a",))])
        for value in wrong:
            self.refused(BadForm, "place", (0,), need_form, (value,))
            self.refused(BadForm, "place", (0,), need_form, (value, value))
            self.refused(BadForm, "place", (2,), need_form, (EMPTY, EMPTY, value))
            self.refused(BadForm, "place", (59,), need_form, (EMPTY,) * 59 + (value,))

    def test_eight_worlds(self):
        for many in range(8):
            form = ((BRANCHES[:many], (("here", many),) * (many + 1)),)
            self.assertIs(need_form(form), form)

    def test_parents(self):
        """A parent is the world before, or one on the way up from it."""
        for parents in (
                (0,), (0, 0), (0, 1), (0, 0, 0), (0, 0, 2), (0, 1, 0), (0, 1, 1), (0, 1, 2), (0, 1, 2, 1, 1, 0, 6),
                (0, 1, 2, 3, 4, 5, 6), (0, 0, 0, 0, 0, 0, 0), (0, 1, 1, 3, 3, 1, 0), (0, 1, 2, 0, 4, 5, 4)):
            form = ((tuple((parent, -1) for parent in parents), (NO,) * (len(parents) + 1)),)
            self.assertIs(need_form(form), form)
        for parents, place in (
                ((1,), 0), ((0, 2), 1), ((0, 0, 1), 2), ((0, 1, 0, 1), 3), ((0, 1, 0, 2), 3), ((0, 1, 1, 2), 3),
                ((0, 1, 2, 1, 3), 4), ((0, 1, 2, 1, 2), 4), ((0, 1, 2, 0, 4, 5, 1), 6), ((0, 1, 2, 0, 4, 5, 3), 6),
                ((0, 1, 2, 3, 4, 5, 7), 6), ((0, 0, 1, 9), 2), ((-1,), 0), ((0, -1), 1), ((0, -2), 1), ((7,), 0)):
            form = ((tuple((parent, -1) for parent in parents), (NO,) * (len(parents) + 1)),)
            self.refused(BadForm, "place", (0, 0, place), need_form, form)
            self.refused(BadForm, "place", (1, 0, place), need_form, (EMPTY, *form, form))

    def test_parents_of_all_small_trees(self):
        chance = random.Random(53)
        for _ in range(2000):
            many = chance.randint(1, 7)
            parents = [chance.randint(-1, place) if chance.random() < 0.1 else 0 for place in range(many)]
            parents = [parent or chance.randint(0, place) for place, parent in enumerate(parents)]
            form = ((tuple((parent, 0) for parent in parents), (NO,) * (many + 1)),)
            wrong = first_wrong_parent(parents)
            if wrong is None:
                self.assertIs(need_form(form), form)
            else:
                self.refused(BadForm, "place", (0, 0, wrong), need_form, form)
        for _ in range(200):
            tree = tree_by(chance, 7)
            self.assertEqual(need_form(((tree, (YES,) * 8),)), ((tree, (YES,) * 8),))

    def test_wrong_branches(self):
        wrong = [*no_tuples(), (), (0,), (0, 0, 0), [0, 0], "00", OddTuple((0, 0))]
        for number in [*no_numbers(), OddInteger(0), 10 ** 5000, -1, 5]:
            wrong.append((number, 0))
        for number in [*no_numbers(), OddInteger(0), 10 ** 5000, -4, 3]:
            wrong.extend([(0, number), (9, number)])
        for value in wrong:
            self.refused(BadForm, "place", (0, 0, 0), need_form, (((value,), (NO, NO)),))
            self.refused(BadForm, "place", (0, 0, 0), need_form, (((value, value), (5, 5, 5)),))
            self.refused(BadForm, "place", (0, 0, 0), need_form, (((value,) + BRANCHES[1:], (NO,) * 8),))
            self.refused(BadForm, "place", (1, 0, 1), need_form, (EMPTY, (((0, 0), value), (NO,) * 3)))

    def test_ways_of_branches(self):
        for way in WAYS:
            self.assertEqual(need_form(((((0, way),), (NO, NO)),)), ((((0, way),), (NO, NO)),))
        for way in (-4, 3, 7, -100):
            self.refused(BadForm, "place", (0, 0, 0), need_form, ((((0, way),), (NO, NO)),))

    def test_wrong_facts(self):
        for value in wrong_facts():
            self.refused(BadForm, "place", (0, 1, 0), need_form, (((), (value,)),))
            self.refused(BadForm, "place", (0, 1, 0), need_form, (((), (("and", YES, ("or", value, value)),)), 5))
            self.refused(BadForm, "place", (1, 1, 2), need_form, (EMPTY, (BRANCHES[:3], (NO, NO, value, value)), 5))
            self.refused(BadForm, "place", (1, 1, 1), need_form, (EMPTY, (((0, 0),), (NO, ("each", 1, value)))))

    def test_heres_are_worlds_of_the_clause(self):
        for many in range(8):
            for place in range(9):
                form = (EMPTY, (BRANCHES[:many], (NO,) * many + (("some", 0, ("here", place)),)))
                if place <= many:
                    self.assertIs(need_form(form), form)
                else:
                    self.refused(BadForm, "place", (1, 1, many), need_form, form)
        mixed = ((BRANCHES, (("here", 7),) * 8), ((), (("here", 1),)))
        self.refused(BadForm, "place", (1, 1, 0), need_form, mixed)

    def test_clause_by_clause(self):
        bad_pair, bad_tree, bad_fact = 5, (((1, 0),), (NO, NO)), ((), (P,))
        bad_both = (((0, 0), (0, 5)), (NO, P, NO))
        for clauses, place in (
                ((bad_fact, bad_pair), (0, 1, 0)), ((bad_tree, bad_pair), (0, 0, 0)), ((bad_pair, bad_tree), (0,)),
                ((EMPTY, bad_tree, bad_fact), (1, 0, 0)), ((EMPTY, bad_fact, bad_tree), (1, 1, 0)),
                ((bad_both, bad_pair), (0, 0, 1)), ((EMPTY, bad_both), (1, 0, 1))):
            self.refused(BadForm, "place", place, need_form, clauses)

    def test_a_hundred_deep(self):
        form = ((BRANCHES[:1], (NO, tall_fact(100))), ((), (tall_fact(100),)))
        self.assertIs(need_form(form), form)
        self.refused(TooGreat, "most", 100, need_form, (*form, ((), (tall_fact(101),))))
        self.refused(TooGreat, "most", 100, need_form, (*form, ((), (tall_fact(101, 5),)), 5))
        self.refused(BadForm, "place", (2, 1, 0), need_form, (*form, ((), (tall_fact(100, 5),)), 5))

    def test_two_thousand_words_over_several_clauses(self):
        for words in ((2000,), (1000, 1000), (500, 1, 1499), (1,) * 59 + (1941,), (1999, 1)):
            forms = [tuple(((), (wide_fact(many),)) for many in words)]
            if len(words) <= 8:
                forms.append(((BRANCHES[:len(words) - 1], tuple(wide_fact(many) for many in words)),))
            for form in forms:
                self.assertIs(need_form(form), form)
            if len(words) < 8:
                self.one_more_word(words)

    def one_more_word(self, words):
        for at in range(len(words)):
            more = [many + (place == at) for place, many in enumerate(words)]
            self.refused(TooGreat, "most", 2000, need_form, tuple(((), (wide_fact(many),)) for many in more))
            facts = tuple(wide_fact(many) for many in more)
            self.refused(TooGreat, "most", 2000, need_form, ((BRANCHES[:len(more) - 1], facts),))
        full = tuple(((), (wide_fact(many),)) for many in words)
        for thing in (5, P, Touchy(), YES):
            self.refused(TooGreat, "most", 2000, need_form, (*full, ((), (thing,))))
        # Pairs and TREEs are looked at ahead of the facts, those of this clause, too.
        self.refused(BadForm, "place", (len(full),), need_form, (*full, 5))
        self.refused(BadForm, "place", (len(full), 0, 0), need_form, (*full, (((1, 0),), (YES, YES))))


def first_wrong_parent(parents):
    for place, parent in enumerate(parents):
        above = [place]
        while above[-1] > 0:
            above.append(parents[above[-1] - 1])
        if parent not in above:
            return place
    return None


if __name__ == "__main__":
    unittest.main()
