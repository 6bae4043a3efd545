"""Point 6, 7 and 24: the form that is read off a saying."""

import random
import unittest

from anymarks.errors import BadParameter, BadSaying, BadWeb, NoShape, TooGreat
from anymarks.forms import form_worlds, need_form
from anymarks.inward import turned_about
from anymarks.sayings import deep_in, words_in
from anymarks.shapes import in_shape
from anymarks.there import facts_of, form_of, kept_worlds, same_forms
from tests.helpers import (
    GREAT_WEB, LINE, NO, P, Q, R, YES, OddInteger, Refusals, Touchy, bush, chain, eaches, halved, needs,
    no_numbers, no_tuples, plain_box, plain_circles, plain_failing, plain_letters, plain_rows, plainly_negative,
    saying_by, shaped_by, small_webs, somes, to_the_right,
)

NOT_P, NOT_Q = ("not", P), ("not", Q)
LETTERS = [("letter", letter) for letter in range(8)]
EXAMPLE = ("gives", ("and", ("each", 0, ("gives", P, Q)), ("or", P, ("some", 0, P))), ("some", 0, Q))
LOOP = ("gives", ("each", 0, P), P)
MEET = ("gives", ("some", 0, ("each", 0, P)), ("each", 0, ("some", 0, P)))
MCKINSEY = ("gives", ("each", 0, ("some", 0, P)), ("some", 0, ("each", 0, P)))
OUT = ("gives", ("each", 0, ("gives", ("each", 0, P), P)), ("each", 0, P))
HERE = ("here", 0)


def gives(boxes, end):
    return ("gives", halved("and", boxes), end)


def plain_size(fact):
    """(words, depth)."""
    sizes = [plain_size(part) for part in fact if isinstance(part, tuple)]
    return 1 + sum(words for words, _ in sizes), 1 + max([deep for _, deep in sizes], default=0)


def plain_facts(row):
    """What the letters become in a row without circles, as point 6 of the document tells it."""
    known = {}

    def fact_of(letter):
        if letter not in known:
            sets = [set_of(place, box) for place, box in row[2] if plain_box(box)[0] == letter]
            known[letter] = put_together(sets)
        return known[letter]

    def put(saying):
        if saying[0] == "letter":
            return fact_of(saying[1])
        return tuple(put(part) if isinstance(part, tuple) else part for part in saying)

    def set_of(place, box):
        told = ("here", place)
        while box[0] != "letter":
            if box[0] == "each":
                told, box = ("some", -1 - box[1], told), box[2]
            else:
                first = plainly_negative(box[1])
                negative, box = (box[1], box[2]) if first else (box[2], box[1])
                told = ("and", told, put(turned_about(negative)))
        return told

    ends = [[put(end) for end in met] for met in row[1]]
    facts = tuple(put_together([end for end in met if end != NO]) for met in ends)
    return tuple(fact_of(letter) for letter in range(8)), (row[0], facts)


def put_together(facts):
    return to_the_right("or", facts) if facts else NO


class TestFormOf(Refusals, unittest.TestCase):
    def test_the_examples(self):
        self.assertEqual(form_of(LOOP), (((), (("some", -1, HERE),)),))
        meet = ((((0, 0),), (("each", 0, ("some", 0, ("some", -1, ("here", 1)))), NO)),)
        self.assertEqual(form_of(MEET), meet)
        self.assertEqual(form_of(P), (((), (NO,)),))
        self.out_of_shape(("each", 0, ("some", 0, P)), (), form_of, MCKINSEY)
        self.out_of_shape(None, (0,), form_of, OUT)
        self.assertEqual(form_of(saying=LOOP), form_of(LOOP))

    def test_without_letters_that_head(self):
        for saying, fact in (
                (YES, YES), (NO, NO), (("some", 0, YES), ("some", 0, YES)), (("gives", NO, P), ("or", YES, NO)),
                (("each", 0, P), ("each", 0, NO)), (("or", P, Q), ("or", NO, NO)), (("and", YES, P), ("and", YES, NO)),
                (("gives", ("some", -1, YES), ("some", 1, NO)), ("or", ("each", -1, NO), ("some", 1, NO)))):
            self.assertEqual(form_of(saying), (((), (fact,)),), saying)

    def test_boxes(self):
        first, second = ("some", -1, HERE), ("and", HERE, ("some", -1, HERE))
        for boxes, end, fact in (
                ([P], P, HERE), ([("each", -1, P)], P, ("some", 0, HERE)), ([("each", 2, P)], P, ("some", -3, HERE)),
                ([("each", 0, ("each", 1, P))], P, ("some", -2, first)),
                ([("each", 0, P), P], P, ("or", first, HERE)), ([P, ("each", 0, P)], P, ("or", HERE, first)),
                ([P, ("each", 0, P), ("each", -3, P)], P, ("or", HERE, ("or", first, ("some", 2, HERE)))),
                ([("each", 0, P), Q], ("and", P, Q), ("and", first, HERE)),
                ([("each", 0, P), needs(P, Q)], Q, ("and", first, first)),
                ([needs(P, Q), ("each", 0, P)], Q, ("and", first, first)),
                ([needs(P, Q), P], Q, ("and", first, HERE)),
                ([("each", 0, ("or", Q, NOT_P)), P], Q, ("and", first, HERE)),
                ([("each", 0, ("gives", ("some", 1, P), ("each", 1, Q))), P], Q,
                 ("some", -2, ("and", first, ("some", 1, HERE)))),
                ([needs(R, Q)], Q, ("and", first, NO)), ([needs(YES, Q)], Q, ("and", first, YES)),
                ([needs(P, ("gives", P, Q)), ("each", 0, P)], Q, ("and", ("and", first, first), first)),
                ([needs(Q, R), needs(P, Q), P], R, ("and", first, ("and", first, HERE))),
                ([("each", 0, ("and", P, needs(P, Q)))], Q, ("and", ("some", -1, first), first))):
            self.assertEqual(form_of(gives(boxes, end)), (((), (fact,)),), (boxes, end))
        self.assertEqual(second, ("and", HERE, first))

    def test_ends(self):
        for ends, fact in (
                ([P, Q], HERE), ([Q, P], HERE), ([Q], NO), ([NO], NO), ([NO, P, NO], HERE), ([Q, NO], NO),
                ([P, ("some", 0, P)], ("or", HERE, ("some", 0, HERE))),
                ([("and", NO, NO), P], ("or", ("and", NO, NO), HERE)),
                ([("some", 0, Q), P], ("or", ("some", 0, NO), HERE)), ([P, P], ("or", HERE, HERE)),
                ([P, ("each", 0, P), YES], ("or", HERE, ("or", ("each", 0, HERE), YES)))):
            # Each of them by itself is met as an end: "and" with the box ahead of the last one.
            met = P
            for end in ends:
                met = ("and", met, ("not", end))
            self.assertEqual(form_of(("not", met)), (((), (fact,)),), ends)

    def test_rows_and_worlds(self):
        self.assertEqual(form_of(EXAMPLE), (
            ((), (("some", 0, ("and", ("some", -1, HERE), HERE)),)),
            (((0, 0),), (("some", 0, ("and", ("some", -1, HERE), ("here", 1))), NO))))
        met = ("and", ("some", 0, ("and", P, NOT_Q)), ("and", ("some", -1, ("each", 1, Q)), ("not", ("some", 2, P))))
        self.assertEqual(form_of(("not", met)), (
            (((0, 0), (0, -1)), (("some", 2, ("here", 1)), ("some", -2, ("here", 2)), NO)),))

    def test_as_the_document_tells(self):
        chance = random.Random(81)
        checked = 0
        for turn in range(1500):
            saying = shaped_by(chance, 1 + turn % 6) if turn % 3 else saying_by(chance, 2 + turn % 5)
            rows = plain_rows(saying)
            if rows[0] == "wrong" or len(rows) > 60 or any(len(row[1]) > 8 or plain_circles(row) for row in rows):
                self.assertIs(in_shape_or_great(saying), False)
                continue
            checked += 1
            told = [plain_facts(row) for row in rows]
            form = form_of(saying)
            self.plain(form)
            self.assertEqual(form, tuple(clause for _, clause in told), saying)
            self.assertIs(need_form(form), form)
            for number in chance.sample(range(len(rows)), min(3, len(rows))):
                facts = facts_of(saying, number)
                self.plain(facts)
                self.assertEqual(facts, told[number][0], (saying, number))
        self.assertGreater(checked, 800)


def in_shape_or_great(saying):
    try:
        return in_shape(saying)
    except TooGreat:
        return False


class TestFactsOf(Refusals, unittest.TestCase):
    def test_the_examples(self):
        told = (("here", 1), ("and", ("some", -1, HERE), ("here", 1)), *[NO] * 6)
        self.assertEqual(facts_of(EXAMPLE, 1), told)
        self.assertEqual(facts_of(number=1, saying=EXAMPLE), told)
        self.assertEqual(facts_of(LOOP, 0), (("some", -1, HERE), *[NO] * 7))
        self.assertEqual(facts_of(P, 0), (NO,) * 8)

    def test_eight_letters(self):
        boxes = [LETTERS[0]] + [needs(LETTERS[letter], LETTERS[letter + 1]) for letter in range(7)]
        facts = facts_of(gives(boxes, YES), 0)
        self.assertEqual(facts[0], HERE)
        for before, fact in zip(facts, facts[1:]):
            self.assertEqual(fact, ("and", ("some", -1, HERE), before))
        backwards = [LETTERS[7]] + [needs(LETTERS[letter + 1], LETTERS[letter]) for letter in range(7)]
        self.assertEqual(facts_of(gives(backwards, YES), 0), facts[::-1])

    def test_several_boxes_in_the_order_met(self):
        boxes = [needs(Q, P), ("each", 2, P), Q, ("each", 1, Q), P]
        q_fact = ("or", HERE, ("some", -2, HERE))
        p_fact = ("or", ("and", ("some", -1, HERE), q_fact), ("or", ("some", -3, HERE), HERE))
        self.assertEqual(facts_of(gives(boxes, YES), 0), (p_fact, q_fact, *[NO] * 6))

    def test_a_row_is_enough(self):
        """Other rows may be out of shape, and there may be more than 60."""
        circle = ("and", needs(P, Q), needs(Q, P))
        saying = ("not", ("or", ("each", 0, P), circle))
        self.assertEqual(facts_of(saying, 0)[0], ("some", -1, HERE))
        self.out_of_shape(None, (0, 1), facts_of, saying, 1)
        many = ("not", halved("or", [P, ("each", 0, Q)] * 40))
        self.assertEqual(facts_of(many, 79), (NO, ("some", -1, HERE), *[NO] * 6))
        self.refused(TooGreat, "most", 60, form_of, many)


class TestWhereItIsKept(Refusals, unittest.TestCase):
    def test_kept_exactly_where_the_form_holds(self):
        chance = random.Random(82)
        webs = [web for web in small_webs() if web[0] <= 4]
        found = [0, 0]
        while min(found) < 400:
            saying, web = shaped_by(chance, chance.randint(2, 5)), chance.choice(webs)
            if len(plain_letters(saying)) * web[0] > 8 or not in_shape_or_great(saying):
                continue
            told = [marking is None for marking in plain_failing(web, saying)]
            kept = kept_worlds(web, saying)
            self.plain(kept)
            self.assertEqual(kept, tuple(world for world in range(web[0]) if told[world]), (web, saying))
            self.assertEqual(kept, form_worlds(web, form_of(saying)))
            found[0] += told.count(True)
            found[1] += told.count(False)

    def test_examples(self):
        self.assertEqual(kept_worlds((2, ((0, 0, 1),)), LOOP), ())
        self.assertEqual(kept_worlds((2, ((0, 0, 1), (0, 1, 1))), LOOP), (1,))
        self.assertEqual(kept_worlds(saying=LOOP, web=(1, ((0, 0, 0),))), (0,))
        self.assertEqual(kept_worlds(LINE, P), ())
        self.assertEqual(kept_worlds(GREAT_WEB, YES), tuple(range(200)))


class TestSameForms(Refusals, unittest.TestCase):
    def test_word_for_word(self):
        for first, second, told in (
                (LOOP, ("gives", ("each", 0, Q), Q), True), (LOOP, ("or", ("some", 0, NOT_P), P), True),
                (LOOP, ("gives", NOT_P, ("some", 0, NOT_P)), True), (LOOP, ("gives", ("each", 1, P), P), False),
                (P, Q, True), (P, NO, True), (("or", P, ("not", P)), YES, False), (MEET, MEET, True),
                (LOOP, MEET, False),
                (("and", P, P), P, False)):
            self.assertIs(same_forms(first, second), told, (first, second))
            self.assertIs(same_forms(other=second, saying=first), told)

    def test_kept_at_the_same_worlds(self):
        chance = random.Random(83)
        sayings = [saying for saying in (shaped_by(chance, 3, 2) for _ in range(400)) if in_shape_or_great(saying)]
        same = 0
        for first, second in zip(sayings, sayings[1:] + sayings[:1]):
            for other in (second, ("not", ("not", first)), ("and", first, YES)):
                told = same_forms(first, other)
                self.assertIs(told, form_of(first) == form_of(other))
                if told:
                    same += 1
                    for web in small_webs()[::9]:
                        self.assertEqual(kept_worlds(web, first), kept_worlds(web, other))
        self.assertGreater(same, 200)


def of_words(words):
    """A saying whose form has 2,000 or 2,001 words of facts."""
    # An end of K letters, each becoming A + 1 words, has K * (A + 2) - 1 words.
    eachs, letters = {2000: (21, 87), 2001: (20, 91)}[words]
    return gives([eaches(eachs, P)], halved("and", [P] * letters))


def of_depth(deep):
    """A saying whose form is so deep, from 66 to 110."""
    return gives([eaches(30, P), needs(somes(32, P), Q)], somes(deep - 64, Q))


def unfolded(saying):
    """What is put together by "and"."""
    return [*unfolded(saying[1]), *unfolded(saying[2])] if saying[0] == "and" else [saying]


def far_too_great():
    """A saying whose form would have more words than there is room for."""
    boxes = [LETTERS[0]]
    for letter in range(7):
        boxes.append(needs(halved("and", [LETTERS[letter]] * 12), LETTERS[letter + 1]))
    return gives(boxes, LETTERS[7])


class TestBounds(Refusals, unittest.TestCase):
    def test_two_thousand_words(self):
        self.assertEqual(plain_size(form_of(of_words(2000))[0][1][0])[0], 2000)
        for function in self.readers():
            function(of_words(2000))
            self.refused(TooGreat, "most", 2000, function, of_words(2001))

    def readers(self):
        return (
            form_of, lambda saying: kept_worlds(LINE, saying), lambda saying: same_forms(saying, YES),
            lambda saying: same_forms(YES, saying),
        )

    def test_words_of_all_clauses(self):
        # 83 * 12 - 1 words in each of two clauses, and those of the third one.
        great = ("and", eaches(10, P), ("not", halved("and", [P] * 83)))
        for words in (1, 9, 10, 11, 30):
            saying = ("not", ("or", great, ("or", ("and", P, ("not", somes(words - 1, YES))), great)))
            if words > 10:
                self.refused(TooGreat, "most", 2000, form_of, saying)
            else:
                told = [plain_size(facts[0])[0] for _, facts in form_of(saying)]
                self.assertEqual(told, [995, words, 995])

    def test_worlds_without_ends_have_a_word_each(self):
        # 80 * 25 - 1 words at x_0.
        boxes, end = [eaches(23, P)], halved("and", [P] * 80)
        told = form_of(gives([*boxes, somes(1, Q)], end))
        self.assertEqual([plain_size(fact)[0] for fact in told[0][1]], [1999, 1])
        self.refused(TooGreat, "most", 2000, form_of, gives([*boxes, somes(2, Q)], end))
        self.assertEqual(form_of(gives([somes(7, Q)], NO)), ((tuple((place, 0) for place in range(7)), (NO,) * 8),))

    def test_words_of_what_is_put_together(self):
        # Two ends at one world, of 77 and 76 letters that become 12 words each: 1,000 words, 987 and the somes.
        for more, fits in ((11, True), (12, True), (13, False)):
            met = ("and", eaches(11, P), ("not", halved("or", [P] * 77)))
            saying = ("not", ("and", met, ("not", somes(more, halved("or", [P] * 76)))))
            if fits:
                self.assertEqual(plain_size(form_of(saying)[0][1][0])[0], 1988 + more)
            else:
                self.refused(TooGreat, "most", 2000, form_of, saying)
        # A letter with two sets, of as many words as eaches and one, and an "or".
        for first, second, letters, fits in ((9, 10, 87, True), (9, 9, 91, False), (9, 9, 90, True)):
            saying = gives([eaches(first, P), eaches(second, P)], halved("or", [P] * letters))
            words = letters * (first + second + 4) - 1
            self.assertEqual(fits, words <= 2000)
            if fits:
                self.assertEqual(plain_size(form_of(saying)[0][1][0])[0], words)
            else:
                self.assertEqual(words, 2001)
                self.refused(TooGreat, "most", 2000, form_of, saying)

    def test_a_hundred_deep(self):
        for deep in (99, 100):
            form = form_of(of_depth(deep))
            self.assertEqual(max(plain_size(fact)[1] for _, facts in form for fact in facts), deep)
        for function in self.readers():
            function(of_depth(100))
            self.refused(TooGreat, "most", 100, function, of_depth(101))

    def test_many_boxes_and_many_ends(self):
        told = form_of(gives([P] * 100, P))
        self.assertEqual(told, (((), (put_together([HERE] * 100),)),))
        self.refused(TooGreat, "most", 100, form_of, gives([P] * 101, P))
        self.refused(TooGreat, "most", 100, facts_of, gives([P] * 199, YES), 0)
        self.assertEqual(form_of(gives([P] * 199, YES)), (((), (YES,)),))
        for deep in (1, 2, 3):
            ends = [("and", P, NO)] * 98 + [("and", P, ("not", somes(deep - 1, YES)))]
            saying = ("not", halved("and", ends))
            if deep == 3:
                self.refused(TooGreat, "most", 100, form_of, saying)
            else:
                fact = put_together([YES] * 98 + [somes(deep - 1, YES)])
                self.assertEqual(form_of(saying), (((), (fact,)),))

    def test_letters_that_head_no_box_are_one_deep(self):
        boxes = [needs(somes(33, R), P), needs(somes(32, P), Q)]
        told = form_of(gives(boxes, somes(32, Q)))
        self.assertEqual(plain_size(told[0][1][0])[1], 100)
        self.refused(TooGreat, "most", 100, form_of, gives(boxes, somes(33, Q)))
        self.assertEqual(plain_size(form_of(somes(39, P))[0][1][0])[1], 40)

    def test_words_are_told_ahead_of_depth(self):
        for first, second, most in (
                (of_words(2001), of_depth(101), 2000), (of_depth(101), of_words(2001), 2000),
                (of_depth(101), of_words(2000), 2000), (of_depth(101), of_depth(90), 100),
                (of_depth(90), of_depth(101), 100)):
            self.refused(TooGreat, "most", most, form_of, ("and", first, second))

    def test_far_too_great(self):
        saying = far_too_great()
        self.assertLessEqual((words_in(saying), deep_in(saying)), (400, 40))
        for function in self.readers():
            self.refused(TooGreat, "most", 2000, function, saying)
        self.refused(TooGreat, "most", 2000, facts_of, saying, 0)
        # What becomes of letters that stand in no end is not told in the form.
        small = ("gives", saying[1], LETTERS[1])
        self.assertEqual(plain_size(form_of(small)[0][1][0])[0], 26)
        self.refused(TooGreat, "most", 2000, facts_of, small, 0)

    def test_words_of_eight_facts(self):
        for more in (1, 2):
            boxes = [eaches(22, P), needs(halved("and", [P] * 82), Q), eaches(more, R)]
            saying = gives(boxes, YES)
            form_of(saying)
            if more == 1:
                facts = [plain_size(fact)[0] for fact in facts_of(saying, 0)]
                self.assertEqual(facts, [23, 1 + 2 + 82 * 24 - 1, 2, 1, 1, 1, 1, 1])
                self.assertEqual(sum(facts), 2000)
            else:
                self.refused(TooGreat, "most", 2000, facts_of, saying, 0)

    def test_depth_of_eight_facts(self):
        for more in (32, 33):
            saying = gives([eaches(33, P), needs(somes(32, P), Q), needs(somes(more, Q), R)], YES)
            form_of(saying)
            if more == 32:
                facts = [plain_size(fact)[1] for fact in facts_of(saying, 0)]
                self.assertEqual(facts, [34, 67, 100, 1, 1, 1, 1, 1])
            else:
                self.refused(TooGreat, "most", 100, facts_of, saying, 0)

    def test_words_of_eight_facts_are_told_ahead_of_depth(self):
        boxes = [
            eaches(33, P), needs(somes(32, P), Q), needs(somes(33, Q), R),
            needs(halved("and", [R] * 30), LETTERS[3]),
        ]
        self.refused(TooGreat, "most", 2000, facts_of, gives(boxes, YES), 0)


class TestRefusals(Refusals, unittest.TestCase):
    def test_wrong_sayings(self):
        for value in [*no_tuples(), (), ("letter", 8), ("here", 0)]:
            self.refused(BadSaying, "path", (), form_of, value)
            self.refused(BadSaying, "path", (1,), form_of, ("or", value, 5))
            for number in (0, -1, "0", Touchy()):
                self.refused(BadSaying, "path", (), facts_of, value, number)
            for other in (P, MCKINSEY, 5, OUT, Touchy()):
                self.refused(BadSaying, "path", (), same_forms, value, other)
            for saying in (P, MCKINSEY, OUT, far_too_great()):
                self.refused(BadSaying, "path", (), same_forms, saying, value)
                self.refused(BadSaying, "path", (2,), same_forms, saying, ("each", 0, value))
            self.refused(BadSaying, "path", (), kept_worlds, LINE, value)
        for saying, most in ((chain(41), 40), (bush(401), 400)):
            self.refused(TooGreat, "most", most, form_of, saying)
            self.refused(TooGreat, "most", most, facts_of, saying, -1)
            self.refused(TooGreat, "most", most, kept_worlds, LINE, saying)
            self.refused(TooGreat, "most", most, same_forms, saying, 5)
            self.refused(TooGreat, "most", most, same_forms, MCKINSEY, saying)

    def test_wrong_webs(self):
        for value in [*no_tuples(), (0, ()), (201, ())]:
            for saying in (P, MCKINSEY, 5, far_too_great()):
                self.refused(BadWeb, "value", value, kept_worlds, value, saying)

    def test_wrong_numbers(self):
        for value in [-1, 2, 10 ** 5000, OddInteger(0), Touchy(), *no_numbers()]:
            self.refused(BadParameter, "value", value, facts_of, EXAMPLE, value)
            self.out_of_shape(("each", 0, ("some", 0, P)), (), facts_of, MCKINSEY, value)
        self.refused(BadParameter, "value", 1, facts_of, OUT, 1)
        self.out_of_shape(None, (0,), facts_of, OUT, 0)
        nine = ("not", ("and", ("each", 0, ("or", NOT_P, P)), somes(8, P)))
        self.refused(TooGreat, "most", 8, facts_of, nine, 0)

    def test_those_of_need_shape_come_first(self):
        great = far_too_great()
        piece = ("each", 1, ("some", 2, P))
        for more, most in ((halved("or", [P] * 60), 60), (somes(8, P), 8)):
            saying = ("and", great, ("not", more))
            self.refused(TooGreat, "most", most, form_of, saying)
            self.refused(TooGreat, "most", most, kept_worlds, LINE, saying)
            self.refused(TooGreat, "most", most, same_forms, saying, P)
        for more, value, letters in ((piece, piece, ()), (needs(P, P), None, (0,))):
            saying = ("and", great, ("not", more))
            for function in (form_of, lambda one: kept_worlds(LINE, one), lambda one: same_forms(one, P)):
                self.out_of_shape(value, letters, function, saying)
        circle = ("not", ("and", ("each", 0, LETTERS[6]), needs(LETTERS[6], LETTERS[6])))
        great_and_circle = gives([*unfolded(great[1]), needs(LETTERS[6], LETTERS[6])], YES)
        self.out_of_shape(None, (6,), facts_of, circle, 0)
        self.out_of_shape(None, (6,), facts_of, great_and_circle, 0)

    def test_the_first_saying_comes_first(self):
        deep, words = of_depth(101), of_words(2001)
        for first, second, error in (
                (deep, words, 100), (words, deep, 2000), (deep, MCKINSEY, 100), (words, OUT, 2000), (P, words, 2000)):
            self.refused(TooGreat, "most", error, same_forms, first, second)
        self.out_of_shape(None, (0,), same_forms, OUT, MCKINSEY)
        self.out_of_shape(("each", 0, ("some", 0, P)), (), same_forms, MCKINSEY, OUT)
        self.out_of_shape(None, (0,), same_forms, P, OUT)

    def test_too_many_rows_of_worlds(self):
        web = (200, tuple((0, 0, 1 + step) for step in range(18)))
        saying = ("not", halved("and", [("some", 0, P), ("some", 0, Q), ("some", 0, R)]))
        self.refused(TooGreat, "most", 5000, kept_worlds, web, saying)
        self.assertEqual(kept_worlds((18, web[1][:17]), saying), tuple(range(1, 18)))
        with self.assertRaises(NoShape):
            kept_worlds(web, ("and", saying, MCKINSEY))


if __name__ == "__main__":
    unittest.main()
