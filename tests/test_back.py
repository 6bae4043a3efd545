"""Point 26: from a form back to a saying."""

import random
import unittest

from anymarks.back import bared, saying_of
from anymarks.errors import BadForm, BadSaying, TooGreat
from anymarks.formdeeds import both_forms, either_forms, under_way
from anymarks.forms import form_worlds
from anymarks.sayings import deep_in, need_saying, words_in
from anymarks.shapes import in_shape, need_shape
from anymarks.there import form_of, kept_worlds, same_forms
from tests.helpers import (
    NO, P, Q, R, YES, Refusals, Touchy, bush, chain, form_by, halved, no_tuples, plain_deep, plain_failing,
    plain_letters, plain_words, shaped_by, small_webs, tall_fact, to_the_right, tree_by,
    wide_fact,
)

LETTERS = [("letter", letter) for letter in range(8)]
HERE = ("here", 0)
EMPTY = ((), (NO,))
LOOP = ("gives", ("each", 0, P), P)
LOOP_FORM = (((), (("some", -1, HERE),)),)
LOOP_BARED = ("not", ("and", P, ("not", ("some", -1, P))))
THROUGH_FORM = ((((0, 0), (1, 0)), (NO, NO, ("some", -1, HERE))),)
THROUGH = ("not", ("and", P, ("some", 0, ("and", Q, ("some", 0, ("and", R, ("not", ("some", -1, P))))))))
MCKINSEY = ("gives", ("each", 0, ("some", 0, P)), ("some", 0, ("each", 0, P)))
OUT = ("gives", ("each", 0, ("gives", ("each", 0, P), P)), ("each", 0, P))


def plain_saying(form):
    """A saying that is kept where the form holds, as point 26 of the document tells it."""
    told = []
    for tree, facts in form:
        def asked(place):
            parts = [LETTERS[place]]
            if facts[place] != NO:
                parts.append(("not", lettered(facts[place])))
            for child, (parent, way) in enumerate(tree, start=1):
                if parent == place:
                    parts.append(("some", way, asked(child)))
            return to_the_right("and", parts)
        told.append(("not", asked(0)))
    return to_the_right("and", told)


def lettered(fact):
    if fact[0] == "here":
        return LETTERS[fact[1]]
    return tuple(lettered(part) if isinstance(part, tuple) else part for part in fact)


class TestSayingOf(Refusals, unittest.TestCase):
    def test_the_examples(self):
        self.assertEqual(saying_of(LOOP_FORM), LOOP_BARED)
        self.assertEqual(saying_of(THROUGH_FORM), THROUGH)
        self.assertEqual(saying_of(form=THROUGH_FORM), THROUGH)

    def test_parts_of_a_world(self):
        form = ((((0, 2), (1, -3), (0, 1)), (("and", HERE, ("here", 3)), NO, YES, ("or", NO, ("here", 2)))), EMPTY)
        told = ("and", ("not", (
            "and", P, ("and", ("not", ("and", P, LETTERS[3])), (
                "and", ("some", 2, ("and", Q, ("some", -3, ("and", R, ("not", YES))))),
                ("some", 1, ("and", LETTERS[3], ("not", ("or", NO, R)))),
            )))), ("not", P))
        self.assertEqual(saying_of(form), told)

    def test_one_alone_stays_as_it_is(self):
        self.assertEqual(saying_of((EMPTY,)), ("not", P))
        self.assertEqual(saying_of((EMPTY,) * 3), ("and", ("not", P), ("and", ("not", P), ("not", P))))
        self.assertEqual(saying_of(((((0, 1),), (NO, NO)),)), ("not", ("and", P, ("some", 1, Q))))

    def test_no_is_left_out_alone(self):
        for fact in (("or", NO, NO), ("and", NO, YES), ("some", 0, NO), YES):
            self.assertEqual(saying_of((((), (fact,)),)), ("not", ("and", P, ("not", fact))))

    def test_as_the_document_tells(self):
        chance = random.Random(101)
        told = 0
        for turn in range(600):
            form = form_by(chance, 1 + turn % 6, turn % 8, 1 + turn % 5)
            saying = plain_saying(form)
            if plain_words(saying) > 400:
                self.refused(TooGreat, "most", 400, saying_of, form)
            elif plain_deep(saying) > 40:
                self.refused(TooGreat, "most", 40, saying_of, form)
            else:
                told += 1
                found = saying_of(form)
                self.plain(found)
                self.assertEqual(found, saying)
                self.assertIs(need_saying(found), found)
                # The form of this saying is the very form, word for word.
                self.assertIs(need_shape(found), found)
                self.assertEqual(form_of(found), form)
        self.assertGreater(told, 450)

    def test_kept_just_where_the_form_holds(self):
        chance = random.Random(102)
        webs = [web for web in small_webs() if web[0] <= 4]
        checked = 0
        while checked < 300:
            form, web = form_by(chance, 2, 2, 3), chance.choice(webs)
            saying = saying_of(form)
            if len(plain_letters(saying)) * web[0] > 9:
                continue
            checked += 1
            told = tuple(world for world, marking in enumerate(plain_failing(web, saying)) if marking is None)
            self.assertEqual(form_worlds(web, form), told, (web, form))
            self.assertEqual(kept_worlds(web, saying), told)

    def test_of_forms_made_of_forms(self):
        loop_and_through = both_forms(LOOP_FORM, THROUGH_FORM)
        self.assertEqual(saying_of(loop_and_through), ("and", LOOP_BARED, THROUGH))
        for form in (loop_and_through, either_forms(LOOP_FORM, THROUGH_FORM), under_way(-1, LOOP_FORM)):
            self.assertEqual(form_of(saying_of(form)), form)


class TestBounds(Refusals, unittest.TestCase):
    def test_four_hundred_words(self):
        # A fact of N words at x_0 alone makes a saying of N + 4.
        for words, fits in ((395, True), (396, True), (397, False), (1000, False), (2000, False)):
            form = (((), (wide_fact(words),)),)
            if fits:
                self.assertEqual(words_in(saying_of(form)), words + 4)
                self.assertEqual(form_of(saying_of(form)), form)
            else:
                self.refused(TooGreat, "most", 400, saying_of, form)

    def test_words_of_several_clauses_and_worlds(self):
        tree = ((0, 0), (1, 1), (0, 2))
        for words, fits in ((83, True), (84, False)):
            # Letters, nots and somes of the four worlds, and what puts them together.
            form = ((tree, (wide_fact(words), wide_fact(100), NO, wide_fact(99))), ((), (wide_fact(96),)))
            told = plain_words(plain_saying(form))
            self.assertEqual(told, 400 + words - 83)
            if fits:
                self.assertEqual(saying_of(form), plain_saying(form))
            else:
                self.refused(TooGreat, "most", 400, saying_of, form)

    def test_forty_deep(self):
        for deep, fits in ((36, True), (37, True), (38, False), (100, False)):
            form = (((), (tall_fact(deep),)),)
            if fits:
                self.assertEqual(deep_in(saying_of(form)), deep + 3)
                self.assertEqual(form_of(saying_of(form)), form)
            else:
                self.refused(TooGreat, "most", 40, saying_of, form)

    def test_depth_of_several_clauses_and_worlds(self):
        for many, fits in ((38, True), (39, True), (40, False), (60, False)):
            form = (EMPTY,) * many
            self.assertEqual(plain_deep(plain_saying(form)), many + 1)
            if fits:
                self.assertEqual(saying_of(form), plain_saying(form))
            else:
                self.refused(TooGreat, "most", 40, saying_of, form)
        line = tuple((place, 0) for place in range(7))
        for deep, fits in ((23, True), (24, False)):
            for facts in ((NO,) * 7 + (tall_fact(deep),), (tall_fact(deep + 13),) + (NO,) * 7):
                form = ((line, facts),)
                self.assertEqual(plain_deep(plain_saying(form)), deep + 17)
                if fits:
                    self.assertEqual(saying_of(form), plain_saying(form))
                else:
                    self.refused(TooGreat, "most", 40, saying_of, form)

    def test_words_are_told_ahead_of_depth(self):
        self.refused(TooGreat, "most", 400, saying_of, (((), (tall_fact(100),)), ((), (wide_fact(397),))))
        self.refused(TooGreat, "most", 400, saying_of, (((), (tall_fact(100),)),) * 5)
        self.refused(TooGreat, "most", 40, saying_of, (((), (tall_fact(100),)), ((), (wide_fact(200),))))


class TestBared(Refusals, unittest.TestCase):
    def test_the_example(self):
        self.assertEqual(bared(LOOP), LOOP_BARED)
        self.assertEqual(bared(saying=LOOP), LOOP_BARED)
        self.assertEqual(bared(THROUGH), THROUGH)
        self.assertEqual(bared(("gives", ("each", 0, P), ("each", 0, ("each", 0, P)))),
                         ("not", ("and", P, ("not", ("each", 0, ("each", 0, ("some", -1, P)))))))
        self.assertEqual(bared(P), ("not", P))
        self.assertEqual(bared(YES), ("not", ("and", P, ("not", YES))))

    def test_bared_twice_is_bared_once(self):
        chance = random.Random(103)
        checked = 0
        for turn in range(900):
            saying = shaped_by(chance, 1 + turn % 6)
            try:
                told = bared(saying)
            except TooGreat:
                continue
            except ValueError:
                self.assertIs(in_shape(saying), False)
                continue
            checked += 1
            self.plain(told)
            self.assertEqual(told, saying_of(form_of(saying)))
            self.assertEqual(bared(told), told)
            self.assertIs(same_forms(told, saying), True)
            web = chance.choice(small_webs())
            self.assertEqual(kept_worlds(web, told), kept_worlds(web, saying))
        self.assertGreater(checked, 500)

    def test_errors_of_form_of_come_first(self):
        self.out_of_shape(("each", 0, ("some", 0, P)), (), bared, MCKINSEY)
        self.out_of_shape(None, (0,), bared, OUT)
        self.refused(TooGreat, "most", 60, bared, ("not", halved("or", [P] * 61)))
        nine = P
        for _ in range(8):
            nine = ("some", 0, nine)
        self.refused(TooGreat, "most", 8, bared, ("not", nine))
        box = P
        for _ in range(30):
            box = ("each", 0, box)
        self.refused(TooGreat, "most", 2000, bared, ("gives", box, halved("and", [P] * 70)))
        self.refused(TooGreat, "most", 400, bared, ("gives", box, halved("and", [P] * 20)))
        end = P
        for _ in range(7):
            end = ("some", 0, end)
        self.refused(TooGreat, "most", 40, bared, ("gives", box, end))
        self.assertEqual(deep_in(bared(("gives", box, end[2]))), 40)
        needs = ("each", 0, ("gives", tall("some", 33, P), Q))
        deep = ("gives", ("and", tall("each", 33, P), needs), tall("some", 33, Q))
        self.refused(TooGreat, "most", 100, bared, deep)


def tall(word, many, inner):
    for _ in range(many):
        inner = (word, 0, inner)
    return inner


class TestRefusals(Refusals, unittest.TestCase):
    def test_wrong_forms(self):
        for value in no_tuples():
            if type(value) is not tuple or not value:
                self.refused(BadForm, "place", (), saying_of, value)
            else:
                self.refused(BadForm, "place", (0,), saying_of, value)
            self.refused(BadForm, "place", (1,), saying_of, (EMPTY, value))
            self.refused(BadForm, "place", (0, 1, 0), saying_of, (((), (value,)), 5))
        for form, place in (
                ((EMPTY,) * 61, ()), ((((1, 0),), (NO, NO)), (0,)), (((((1, 0),), (NO, NO)),), (0, 0, 0)),
                (((((0, 3),), (NO, NO)),), (0, 0, 0)), ((((), (P,)),), (0, 1, 0)),
                ((((), (("here", 1),)),), (0, 1, 0))):
            self.refused(BadForm, "place", place, saying_of, form)
        for fact, most in ((tall_fact(101), 100), (wide_fact(2001), 2000)):
            self.refused(TooGreat, "most", most, saying_of, (((), (fact,)),))

    def test_wrong_sayings(self):
        for value in [*no_tuples(), (), ("letter", 8), ("here", 0), Touchy()]:
            self.refused(BadSaying, "path", (), bared, value)
            self.refused(BadSaying, "path", (2,), bared, ("gives", P, value))
        self.refused(TooGreat, "most", 40, bared, chain(41))
        self.refused(TooGreat, "most", 400, bared, bush(401))

    def test_great_trees(self):
        chance = random.Random(104)
        for _ in range(100):
            tree = tree_by(chance, 7)
            form = ((tree, tuple(("here", 7 - place) for place in range(8))),)
            self.assertEqual(form_of(saying_of(form)), form)


if __name__ == "__main__":
    unittest.main()
