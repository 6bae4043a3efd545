"""Point 27: forward forms, and sayings without ways back."""

import random
import unittest

from anymarks.back import saying_of
from anymarks.errors import BadForm, NoForward, TooGreat
from anymarks.forms import form_worlds
from anymarks.forward import forward_saying, is_forward
from anymarks.parts import beside, closed_from, part_of
from anymarks.sayings import deep_in, need_saying, words_in
from anymarks.there import form_of, kept_worlds
from tests.helpers import (
    NO, P, Q, R, YES, Refusals, all_webs, form_by, halved, no_tuples, plain_deep, plain_failing,
    plain_letters, plain_words, small_webs, tall_fact, to_the_right, tree_by, web_by, wide_fact,
)

LETTERS = [("letter", letter) for letter in range(8)]
HERE = [("here", place) for place in range(8)]
EMPTY = ((), (NO,))
BACK = ("some", -1, HERE[0])
LOOP_FORM = (((), (BACK,)),)
THROUGH_FORM = ((((0, 0), (1, 0)), (NO, NO, BACK)),)


def plain_end(fact):
    """(J, V_1, V_2, ..) of an end, None of anything else."""
    if fact[0] == "here":
        return (fact[1],)
    if fact[0] == "some" and fact[1] < 0:
        inner = plain_end(fact[2])
        return inner and (inner[0], fact[1], *inner[1:])
    return None


def plainly_forward(fact):
    if fact in (YES, NO) or plain_end(fact):
        return True
    if fact[0] in ("and", "or"):
        return plainly_forward(fact[1]) and plainly_forward(fact[2])
    return fact[0] in ("each", "some") and fact[1] >= 0 and plainly_forward(fact[2])


def plain_ends(fact):
    """The ends of a forward fact from the left, each taken whole."""
    if plain_end(fact):
        return [plain_end(fact)]
    return [end for part in fact if isinstance(part, tuple) for end in plain_ends(part)]


def plain_clause_saying(clause):
    """The saying of a forward clause as point 27 of the document tells it, "great" for too many letters."""
    tree, facts = clause
    ends = list(dict.fromkeys(end for fact in facts for end in plain_ends(fact)))
    named = {end[0] for end in ends} | {parent for parent, _ in tree}
    ends.extend((place,) for place in range(len(facts)) if place not in named)
    if len(ends) > 8:
        return "great"

    def lettered(fact):
        if plain_end(fact):
            return ("letter", ends.index(plain_end(fact)))
        return tuple(lettered(part) if isinstance(part, tuple) else part for part in fact)

    def asked(place):
        parts = []
        for letter, end in enumerate(ends):
            if end[0] == place:
                box = LETTERS[letter]
                for way in end[1:]:
                    box = ("each", -1 - way, box)
                parts.append(box)
        if facts[place] != NO:
            parts.append(("not", lettered(facts[place])))
        for child, (parent, way) in enumerate(tree, start=1):
            if parent == place:
                parts.append(("some", way, asked(child)))
        return to_the_right("and", parts)

    return ("not", asked(0))


def ways_in(saying):
    """All ways that stand in a saying."""
    found = [saying[1]] if saying[0] in ("each", "some") else []
    return found + [way for part in saying if isinstance(part, tuple) for way in ways_in(part)]


def forward_fact_by(chance, deep, many):
    """A forward fact over so many worlds."""
    if deep == 1 or chance.random() < 0.3:
        end = ("here", chance.randrange(many))
        for _ in range(chance.choice((0, 1, 1, 2, 3))):
            end = ("some", chance.choice((-3, -2, -1)), end)
        return chance.choice([end, end, end, end, YES, NO])
    word = chance.choice(("and", "or", "each", "some"))
    if word in ("each", "some"):
        return (word, chance.choice((0, 1, 2)), forward_fact_by(chance, deep - 1, many))
    return (word, forward_fact_by(chance, deep - 1, many), forward_fact_by(chance, deep - 1, many))


def forward_form_by(chance, clauses=2, branches=3, deep=3):
    form = []
    for _ in range(chance.randint(1, clauses)):
        tree = tuple((parent, way % 3) for parent, way in tree_by(chance, chance.randint(0, branches)))
        many = len(tree) + 1
        facts = [NO if chance.random() < 0.3 else forward_fact_by(chance, deep, many) for _ in range(many)]
        form.append((tree, tuple(facts)))
    return tuple(form)


def ended(ends):
    """A fact of x_0 in which these ends stand, from the left."""
    facts = []
    for place, *ways in ends:
        fact = ("here", place)
        for way in ways[::-1]:
            fact = ("some", way, fact)
        facts.append(fact)
    return halved("or", facts)


class TestIsForward(Refusals, unittest.TestCase):
    def test_facts(self):
        for fact, told in (
                (YES, True), (NO, True), (HERE[0], True), (BACK, True), (("some", -3, BACK), True),
                (("each", -1, HERE[0]), False), (("some", -1, YES), False), (("some", -1, NO), False),
                (("some", -1, ("some", 0, HERE[0])), False), (("some", -2, ("or", HERE[0], HERE[0])), False),
                (("some", 0, BACK), True), (("each", 2, ("each", 0, BACK)), True), (("each", 0, ("each", -3, YES)), False),
                (("and", BACK, YES), True), (("and", YES, ("each", -1, NO)), False),
                (("and", ("each", -1, NO), YES), False), (("or", NO, ("some", 1, BACK)), True),
                (("some", -1, ("some", -1, ("some", -2, HERE[0]))), True),
                (("some", -1, ("some", -1, ("each", 0, HERE[0]))), False)):
            self.assertIs(is_forward((((), (fact,)),)), told, fact)
            self.assertIs(is_forward((EMPTY, (((0, 0),), (YES, fact)))), told, fact)
            self.assertIs(is_forward(form=((((0, 2),), (fact, YES)), EMPTY)), told, fact)

    def test_trees(self):
        for way in range(-3, 3):
            self.assertIs(is_forward(((((0, way),), (NO, NO)),)), way >= 0)
            self.assertIs(is_forward((EMPTY, (((0, 0), (1, way)), (NO, NO, NO)))), way >= 0)
            self.assertIs(is_forward(((((0, way), (1, 0)), (NO, NO, NO)), EMPTY)), way >= 0)

    def test_as_the_document_tells(self):
        chance = random.Random(151)
        found = {True: 0, False: 0}
        for turn in range(1500):
            form = forward_form_by(chance) if turn % 2 else form_by(chance, 2, 1, 2)
            told = all(way >= 0 for tree, _ in form for _, way in tree)
            told = told and all(plainly_forward(fact) for _, facts in form for fact in facts)
            found[told] += 1
            self.assertIs(is_forward(form), told, form)
        self.assertGreater(min(found.values()), 300)

    def test_great_forms(self):
        chain = HERE[0]
        for _ in range(99):
            chain = ("some", -1, chain)
        self.assertIs(is_forward((((), (chain,)),)), True)
        self.assertIs(is_forward((((), (halved("or", [BACK] * 660),)),)), True)
        self.assertIs(is_forward((((), (halved("or", [BACK] * 660 + [("each", -1, YES)]),)),)), False)
        self.assertIs(is_forward((EMPTY,) * 60), True)


class TestForwardSaying(Refusals, unittest.TestCase):
    def test_the_examples(self):
        self.assertEqual(forward_saying(LOOP_FORM), ("not", ("and", ("each", 0, P), ("not", P))))
        told = ("not", ("and", ("each", 0, P), ("some", 0, ("some", 0, ("and", Q, ("not", P))))))
        self.assertEqual(forward_saying(THROUGH_FORM), told)
        self.assertEqual(forward_saying(form=THROUGH_FORM), told)
        self.refused(NoForward, "place", (0, 1, 0), forward_saying, (((), (("each", -1, HERE[0]),)),))
        # The two forms as point 26 tells them.
        self.assertEqual(saying_of(LOOP_FORM), ("not", ("and", P, ("not", ("some", -1, P)))))
        self.assertEqual(saying_of(THROUGH_FORM), ("not", (
            "and", P, ("some", 0, ("and", Q, ("some", 0, ("and", R, ("not", ("some", -1, P)))))))))

    def test_letters_of_worlds_and_ends(self):
        self.assertEqual(forward_saying((EMPTY,)), ("not", P))
        self.assertEqual(forward_saying((EMPTY, EMPTY)), ("and", ("not", P), ("not", P)))
        self.assertEqual(forward_saying((((), (YES,)),)), ("not", ("and", P, ("not", YES))))
        self.assertEqual(forward_saying((((), (HERE[0],)),)), ("not", ("and", P, ("not", P))))
        # x_0 is a parent and named by no end: it has no letter.
        self.assertEqual(forward_saying(((((0, 1),), (NO, NO)),)), ("not", ("some", 1, P)))
        self.assertEqual(forward_saying(((((0, 1), (0, 2)), (NO, NO, NO)),)),
                         ("not", ("and", ("some", 1, P), ("some", 2, Q))))
        # A parent may be named, a leaf may have several letters, all ahead of those without an end.
        facts = (("and", ("some", -1, HERE[2]), HERE[0]), NO, ("or", HERE[2], ("some", -1, HERE[2])))
        self.assertEqual(forward_saying(((((0, 0), (0, 1)), facts),)), ("not", (
            "and", Q, ("and", ("not", ("and", P, Q)), ("and", ("some", 0, LETTERS[3]), (
                "some", 1, ("and", ("each", 0, P), ("and", R, ("not", ("or", R, P))))))))))

    def test_boxes_go_the_ways_back(self):
        fact = ("some", -1, ("some", -2, ("some", -3, HERE[0])))
        box = ("each", 2, ("each", 1, ("each", 0, P)))
        self.assertEqual(forward_saying((((), (fact,)),)), ("not", ("and", box, ("not", P))))
        self.assertEqual(form_of(("not", ("and", box, ("not", P)))), (((), (fact,)),))

    def test_letters_begin_anew_in_each_clause(self):
        form = (LOOP_FORM[0], THROUGH_FORM[0], LOOP_FORM[0])
        first, second = forward_saying(LOOP_FORM), forward_saying(THROUGH_FORM)
        self.assertEqual(forward_saying(form), ("and", first, ("and", second, first)))

    def test_the_very_form_word_for_word(self):
        chance = random.Random(152)
        told = 0
        for turn in range(900):
            form = forward_form_by(chance, 1 + turn % 3, turn % 5, 1 + turn % 5)
            sayings = [plain_clause_saying(clause) for clause in form]
            if "great" in sayings:
                self.refused(TooGreat, "most", 8, forward_saying, form)
                continue
            saying = to_the_right("and", sayings)
            if plain_words(saying) > 400:
                self.refused(TooGreat, "most", 400, forward_saying, form)
            elif plain_deep(saying) > 40:
                self.refused(TooGreat, "most", 40, forward_saying, form)
            else:
                told += 1
                found = forward_saying(form)
                self.plain(found)
                self.assertEqual(found, saying)
                self.assertIs(need_saying(found), found)
                self.assertEqual(form_of(found), form)
                self.assertGreaterEqual(min(ways_in(found), default=0), 0)
        self.assertGreater(told, 700)

    def test_kept_just_where_the_form_holds(self):
        chance = random.Random(153)
        webs = [web for web in small_webs() if web[0] <= 3]
        checked = [0, 0]
        while min(checked) < 120:
            form, web = forward_form_by(chance, 2, 2, 2), chance.choice(webs)
            if any(plain_clause_saying(clause) == "great" for clause in form):
                continue
            saying = forward_saying(form)
            if len(plain_letters(saying)) * web[0] > 9:
                continue
            told = tuple(world for world, marking in enumerate(plain_failing(web, saying)) if marking is None)
            checked[0] += len(told)
            checked[1] += web[0] - len(told)
            self.assertEqual(form_worlds(web, form), told, (web, form))
            self.assertEqual(kept_worlds(web, saying), told)


class TestGoesOver(Refusals, unittest.TestCase):
    """What a forward form tells goes over to parts and to webs side by side."""

    def test_parts_and_webs_side_by_side(self):
        chance = random.Random(154)
        webs = [*all_webs(2, (0,)), *[web_by(chance, size, 2 * size) for size in (3, 4, 5) for _ in range(12)]]
        smaller = 0
        for web in webs:
            for _ in range(4):
                form = forward_form_by(chance, 2, 2, 3)
                there = form_worlds(web, form)
                for world in range(web[0]):
                    worlds = closed_from(web, (world,), False)
                    smaller += len(worlds) < web[0]
                    inside = form_worlds(part_of(web, worlds), form)
                    self.assertEqual([worlds[number] for number in inside], [one for one in worlds if one in there])
                other = chance.choice(webs)
                told = form_worlds(beside((other, web)), form)
                found = [*form_worlds(other, form), *[other[0] + world for world in there]]
                self.assertEqual(list(told), found)
        self.assertGreater(smaller, 100)


class TestRefusals(Refusals, unittest.TestCase):
    def test_the_first_place(self):
        bad = ("each", -1, YES)
        for form, place in (
                ((((), (bad,)),), (0, 1, 0)), ((EMPTY, ((), (bad,))), (1, 1, 0)),
                (((((0, -1),), (bad, bad)),), (0, 0, 0)), (((((0, 0), (0, -3)), (bad, NO, NO)),), (0, 0, 1)),
                (((((0, 0), (0, 1)), (NO, YES, bad)),), (0, 1, 2)), (((((0, 0),), (NO, bad)),), (0, 1, 1)),
                ((((), (bad,)), (((0, -1),), (NO, NO))), (0, 1, 0)),
                (((((0, 0),), (NO, bad)), (((0, -1),), (NO, NO))), (0, 1, 1)),
                ((EMPTY, EMPTY, (((0, -2), (1, -2)), (NO, bad, NO))), (2, 0, 0)),
                (((((0, 0), (1, 0), (0, -1)), (NO,) * 4),), (0, 0, 2))):
            self.assertIs(is_forward(form), False)
            self.refused(NoForward, "place", place, forward_saying, form)

    def test_the_form_comes_first(self):
        bad = ((), (("each", -1, YES),))
        for function in (is_forward, forward_saying):
            for value in no_tuples():
                place = () if type(value) is not tuple or not value else (0,)
                self.refused(BadForm, "place", place, function, value)
                self.refused(BadForm, "place", (1,), function, (bad, value))
                self.refused(BadForm, "place", (1, 1, 0), function, (bad, ((), (value,))))
                self.refused(BadForm, "place", (1, 0, 0), function, (bad, ((value,), (NO, NO))))
            self.refused(BadForm, "place", (), function, ())
            self.refused(BadForm, "place", (), function, (bad,) * 61)
            self.refused(BadForm, "place", (0, 1, 0), function, (((), (P,)),))
            self.refused(BadForm, "place", (0, 1, 0), function, (((), (("here", 1),)),))
            self.refused(BadForm, "place", (0, 0, 0), function, ((((0, True),), (NO, NO)),))
            self.refused(TooGreat, "most", 100, function, (bad, ((), (tall_fact(101),))))
            self.refused(TooGreat, "most", 2000, function, (bad, ((), (wide_fact(2000),))))

    def test_eight_letters(self):
        ends = [(0,), (0, -1), (0, -2), (0, -3), (0, -1, -1), (0, -1, -2), (0, -2, -1), (0, -3, -3), (0, -3, -2)]
        for many, fits in ((7, True), (8, True), (9, False)):
            # Ends that are alike have one letter.
            form = (((), (ended([*ends[:many], *ends[:many][::-1]]),)),)
            if fits:
                self.assertEqual(plain_letters(forward_saying(form)), set(range(many)))
                self.assertEqual(form_of(forward_saying(form)), form)
            else:
                self.refused(TooGreat, "most", 8, forward_saying, form)
            # A leaf that no end names wants one more, a parent none.
            for way in (0, 1):
                form = ((((0, way),), (ended(ends[:many - 1]), NO)),)
                if fits:
                    self.assertEqual(plain_letters(forward_saying(form)), set(range(many)))
                    self.assertEqual(form_of(forward_saying(form)), form)
                else:
                    self.refused(TooGreat, "most", 8, forward_saying, form)

    def test_letters_of_leaves(self):
        fan = tuple((0, 0) for _ in range(7))
        told = forward_saying(((fan, (NO,) * 8),))
        self.assertEqual(plain_letters(told), set(range(7)))
        self.assertEqual(plain_letters(forward_saying(((fan, (HERE[0],) + (NO,) * 7),))), set(range(8)))
        self.refused(TooGreat, "most", 8, forward_saying, ((fan, (("or", HERE[0], BACK),) + (NO,) * 7),))
        line = tuple((place, 0) for place in range(7))
        self.assertEqual(plain_letters(forward_saying(((line, (NO,) * 8),))), {0})
        self.assertEqual(plain_letters(forward_saying(((line, (halved("or", HERE),) + (NO,) * 7),))), set(range(8)))

    def test_an_end_is_taken_whole(self):
        """("here", 0) within ("some", -1, ("here", 0)) is no end by itself."""
        fact = ("and", ("some", -1, BACK), ("or", BACK, ("some", -1, BACK)))
        told = forward_saying((((), (fact,)),))
        self.assertEqual(plain_letters(told), {0, 1})
        first, second = ("each", 0, ("each", 0, P)), ("each", 0, Q)
        self.assertEqual(told, ("not", ("and", first, ("and", second, ("not", ("and", P, ("or", Q, P)))))))

    def test_four_hundred_words(self):
        # 198 letters put together have 395 words, the saying of a fact of N words has N + 4.
        for somes, fits in ((0, True), (1, True), (2, False), (5, False)):
            fact = halved("and", [HERE[0]] * 198)
            for _ in range(somes):
                fact = ("some", 0, fact)
            form = (((), (fact,)),)
            self.assertEqual(plain_words(plain_clause_saying(form[0])), 399 + somes)
            if fits:
                self.assertEqual(words_in(forward_saying(form)), 399 + somes)
                self.assertEqual(form_of(forward_saying(form)), form)
            else:
                self.refused(TooGreat, "most", 400, forward_saying, form)
        self.refused(TooGreat, "most", 400, forward_saying, (((), (halved("and", [HERE[0]] * 1000),)),))

    def test_forty_deep(self):
        for deep, fits in ((36, True), (37, True), (38, False), (99, False)):
            fact = HERE[0]
            for _ in range(deep - 1):
                fact = ("some", 0, fact)
            form = (((), (fact,)),)
            self.assertEqual(plain_deep(plain_clause_saying(form[0])), deep + 3)
            if fits:
                self.assertEqual(deep_in(forward_saying(form)), deep + 3)
                self.assertEqual(form_of(forward_saying(form)), form)
            else:
                self.refused(TooGreat, "most", 40, forward_saying, form)
            # The depth of an end goes over to its box.
            end = HERE[0]
            for _ in range(deep):
                end = ("some", -1, end)
            form = (((), (end,)),)
            self.assertEqual(plain_deep(plain_clause_saying(form[0])), deep + 3)
            if fits:
                self.assertEqual(form_of(forward_saying(form)), form)
            else:
                self.refused(TooGreat, "most", 40, forward_saying, form)

    def test_which_bound_comes_first(self):
        ends = [(0,), (0, -1), (0, -2), (0, -3), (0, -1, -1), (0, -1, -2), (0, -2, -1), (0, -3, -3), (0, -3, -2)]
        nine = ((), (ended(ends),))
        wide = ((), (halved("or", [HERE[0]] * 300),))
        tall = ((), (tall_forward(60),))
        self.refused(TooGreat, "most", 8, forward_saying, (tall, wide, nine))
        self.refused(TooGreat, "most", 400, forward_saying, (tall, wide))
        self.refused(TooGreat, "most", 40, forward_saying, (tall, EMPTY))
        self.refused(NoForward, "place", (3, 0, 0), forward_saying, (nine, wide, tall, (((0, -1),), (NO, NO))))
        self.refused(TooGreat, "most", 40, forward_saying, (EMPTY,) * 40)
        self.assertEqual(deep_in(forward_saying((EMPTY,) * 39)), 40)


def tall_forward(deep):
    fact = HERE[0]
    for _ in range(deep - 1):
        fact = ("each", 1, fact)
    return fact


if __name__ == "__main__":
    unittest.main()
