"""Great sayings and forms, asked again and again: the same answers and errors, without delay."""

import time
import unittest

from anymarks.errors import BadForm, BadSaying, TooGreat
from anymarks.formdeeds import both_forms, under_way
from anymarks.forms import form_worlds, need_form
from anymarks.sayings import deep_in, need_saying, words_in
from anymarks.shapes import count_rows
from anymarks.there import form_of
from anymarks.walks import pieces_of
from tests.helpers import LINE, NO, P, Q, YES, Refusals, eaches, halved, plain_deep, plain_words, refusal, somes
from tests.test_there import put_together

LETTERS = [("letter", letter) for letter in range(8)]
HERE = [("here", place) for place in range(8)]
EMPTY = ((), (NO,))
CALLS = 500
MOST_SECONDS = 2


def first_saying(parts=64, deep=30, letter=P):
    """S1: eaches around many boxes that need a letter each."""
    return eaches(deep, halved("and", [("or", ("not", Q), letter)] * parts))


def second_saying(letters=8, words=20):
    """S2: letters that need one another, each many times the one ahead."""
    met = P
    for letter in range(1, letters):
        needed = halved("or", [("letter", letter - 1)] * words)
        met = ("and", met, ("each", 0, ("gives", needed, ("letter", letter))))
    return ("gives", met, ("letter", letters - 1))


def parts_of_third(many=60):
    boxes = [eaches(1 + step % 3, LETTERS[step % 8]) for step in range(30)]
    return (boxes + [LETTERS[step % 8] for step in range(many - 30)])[:many]


def third_saying(many=60, end=P):
    """S3: many choices."""
    return ("gives", halved("or", parts_of_third(many)), end)


def great_form(many=1000, end=HERE[0]):
    """F1: one clause without ways, with one great fact."""
    return (((), (halved("or", [HERE[0]] * (many - 1) + [end]),)),)


def third_form(many=60):
    """What S3 reads as: a clause for each choice, by the sets of the letter 0."""
    form = []
    for part in parts_of_third(many):
        fact = HERE[0]
        while part[0] == "each":
            fact, part = ("some", -1, fact), part[2]
        form.append(((), (fact if part == P else NO,)))
    return tuple(form)


class TestAnswers(Refusals, unittest.TestCase):
    def test_they_are_what_is_asked_for(self):
        told = [(words_in(saying), deep_in(saying)) for saying in (first_saying(), second_saying(), third_saying())]
        self.assertEqual(told, [(349, 39), (304, 16), (181, 11)])
        self.assertEqual(plain_words(great_form()[0][1][0]), 1999)
        for saying in (first_saying(), second_saying(), third_saying()):
            self.assertIs(need_saying(saying), saying)

    def test_the_first_saying(self):
        saying = first_saying()
        piece = eaches(30, ("or", ("not", Q), P))
        self.assertEqual(pieces_of(saying), (piece,) * 64)
        self.assertEqual(count_rows(saying), 64)
        self.refused(TooGreat, "most", 60, form_of, saying)
        # Each row has 31 worlds.
        self.refused(TooGreat, "most", 8, form_of, first_saying(60))

    def test_the_first_saying_in_few_worlds(self):
        tree = tuple((place, 0) for place in range(7))
        # Beneath seven somes Q is a box, P an end that no box heads.
        self.assertEqual(form_of(first_saying(60, 7)), ((tree, (NO,) * 8),) * 60)
        self.refused(TooGreat, "most", 8, form_of, first_saying(60, 8))
        self.refused(TooGreat, "most", 60, form_of, first_saying(61, 8))
        loop = first_saying(60, 7, Q)
        self.assertEqual(form_of(loop), ((tree, (NO,) * 7 + (HERE[7],)),) * 60)

    def test_the_first_saying_denied(self):
        """Turned about, its pieces are boxes that all need one letter."""
        denied = ("not", first_saying())
        fact = HERE[0]
        for _ in range(30):
            fact = ("some", -1, fact)
        self.assertEqual(count_rows(denied), 1)
        self.assertEqual(form_of(denied), (EMPTY,))
        read = ("gives", first_saying(5, 3), P)
        one = ("and", ("some", -1, ("some", -1, ("some", -1, HERE[0]))), NO)
        self.assertEqual(form_of(read), (((), (put_together([one] * 5),)),))

    def test_the_second_saying(self):
        saying = second_saying()
        self.assertEqual(pieces_of(saying), (plain_inward(saying),))
        self.assertEqual(count_rows(saying), 1)
        self.refused(TooGreat, "most", 2000, form_of, saying)
        fact, words = HERE[0], 2
        for _ in range(7):
            fact = ("and", ("some", -1, HERE[0]), halved("or", [fact] * words))
        self.assertEqual(form_of(second_saying(8, words)), (((), (fact,)),))

    def test_the_third_saying(self):
        saying = third_saying()
        self.assertEqual(count_rows(saying), 60)
        self.assertEqual(form_of(saying), third_form())
        self.assertEqual(pieces_of(saying), (plain_inward(saying),))

    def test_the_form(self):
        form = great_form()
        self.assertIs(need_form(form), form)
        self.assertEqual(form_worlds(LINE, form), (0, 1, 2))
        self.assertEqual(form_worlds(LINE, great_form(1000, ("no",))), (0, 1, 2))
        self.assertEqual(both_forms(form, (EMPTY,)), form + (EMPTY,))
        self.assertEqual(both_forms((EMPTY,), form), (EMPTY,) + form)
        fact = halved("or", [HERE[1]] * 1000)
        self.assertEqual(under_way(-2, form), ((((0, -2),), (NO, fact)),))


def plain_inward(saying, beneath=False):
    """A saying turned inward, as point 4 of the document tells it."""
    word = saying[0]
    if word == "letter":
        return ("not", saying) if beneath else saying
    if word == "not":
        return plain_inward(saying[1], not beneath)
    if word == "gives":
        return plain_inward(("or", ("not", saying[1]), saying[2]), beneath)
    turn = {"and": "or", "or": "and", "each": "some", "some": "each"}
    outer = turn[word] if beneath else word
    return (outer, *[plain_inward(part, beneath) if isinstance(part, tuple) else part for part in saying[1:]])


class TestMoreThanLet(Refusals, unittest.TestCase):
    """One letter, world or word more than the document lets."""

    READERS = (need_saying, pieces_of, count_rows, form_of)

    def test_a_letter_more(self):
        nine = second_saying(9)
        path = (2,)
        for reader in self.READERS:
            self.refused(BadSaying, "path", self.first_path(nine), reader, nine)
            self.refused(BadSaying, "path", path, reader, third_saying(60, ("letter", 8)))
            self.refused(BadSaying, "path", (2,) * 30 + (1,) * 6 + (2,), reader, first_saying(64, 30, ("letter", 8)))

    def first_path(self, saying, path=()):
        """The path of the first letter that is none, from the left."""
        if saying == ("letter", 8):
            return path
        for index, part in enumerate(saying):
            found = self.first_path(part, path + (index,)) if isinstance(part, tuple) else None
            if found:
                return found
        return None

    def test_a_word_more(self):
        # 20 eaches and 72 parts have 20 + 71 + 72 * 4 words.
        for somewhere, fits in ((18, True), (19, True), (20, False)):
            saying = ("or", somes(somewhere, Q), first_saying(72, 20))
            self.assertEqual(plain_words(saying), 381 + somewhere)
            for reader in self.READERS:
                if not fits:
                    self.refused(TooGreat, "most", 400, reader, saying)
            if fits:
                self.assertEqual(pieces_of(saying), (plain_inward(saying),))
                self.assertEqual(count_rows(saying), 72)
                self.refused(TooGreat, "most", 60, form_of, saying)
        # Six letters more, for each one word less than twice those needed, and four.
        for words, fits in ((30, True), (31, True), (32, False)):
            saying = second_saying(7, words)
            self.assertEqual(plain_words(saying), 12 * words + 21)
            for reader in self.READERS:
                if not fits:
                    self.refused(TooGreat, "most", 400, reader, saying)
            if fits:
                self.assertEqual(count_rows(saying), 1)

    def test_one_deeper(self):
        for deep, fits in ((31, True), (32, False)):
            saying = first_saying(64, deep)
            self.assertEqual(plain_deep(saying), deep + 9)
            for reader in self.READERS:
                if not fits:
                    self.refused(TooGreat, "most", 40, reader, saying)
            if fits:
                self.assertEqual(pieces_of(saying), (eaches(31, ("or", ("not", Q), P)),) * 64)
                self.assertEqual(count_rows(saying), 64)

    def test_a_row_and_a_world_more(self):
        self.assertEqual(count_rows(third_saying(61)), 61)
        self.refused(TooGreat, "most", 60, form_of, third_saying(61))
        self.assertEqual(form_of(third_saying(59)), third_form(59))
        for worlds, fits in ((7, True), (8, False)):
            saying = ("gives", somes(worlds, halved("or", parts_of_third())), P)
            self.assertEqual(count_rows(saying), 60)
            if fits:
                self.assertEqual(len(form_of(saying)), 60)
            else:
                self.refused(TooGreat, "most", 8, form_of, saying)

    def test_words_of_facts(self):
        for more, fits in ((1, True), (2, False)):
            other = (((), (somes(more - 1, YES),)),)
            if fits:
                self.assertEqual(len(both_forms(great_form(), other)), 2)
            else:
                self.refused(TooGreat, "most", 2000, both_forms, great_form(), other)
                self.refused(TooGreat, "most", 2000, both_forms, other, great_form())
        longer = great_form(1000, ("some", 0, HERE[0]))
        self.assertEqual(plain_words(longer[0][1][0]), 2000)
        self.assertEqual(form_worlds(LINE, longer), (0, 1, 2))
        self.refused(TooGreat, "most", 2000, under_way, 0, longer)
        self.refused(TooGreat, "most", 2000, both_forms, longer, (EMPTY,))
        for form in (great_form(1001), great_form(1000, ("some", 0, ("some", 0, HERE[0]))), great_form(5000)):
            for call in self.calls(form):
                error = refusal(call)
                self.assertEqual((type(error), error.most), (TooGreat, 2000))

    def calls(self, form):
        return (
            lambda: need_form(form), lambda: form_worlds(LINE, form), lambda: both_forms(form, (5,)),
            lambda: both_forms((EMPTY,), form), lambda: under_way(0, form),
        )

    def test_a_world_more_in_facts(self):
        for end, place in ((HERE[1], (0, 1, 0)), (("here", True), (0, 1, 0)), (5, (0, 1, 0)), (("not", HERE[0]), (0, 1, 0))):
            for call in self.calls(great_form(1000, end)):
                error = refusal(call)
                self.assertIs(type(error), BadForm)
                self.assertIn(error.place, (place,))
        tree = tuple((0, 0) for _ in range(7))
        eight = ((tree, (NO,) * 7 + great_form(900)[0][1]),)
        self.assertIs(need_form(eight), eight)
        self.refused(TooGreat, "most", 8, under_way, 0, eight)
        self.refused(BadForm, "place", (0,), need_form, (((*tree, (0, 0)), (NO,) * 9),))


class TestTime(unittest.TestCase):
    def test_five_hundred_calls(self):
        form, other = great_form(), (EMPTY,)
        sayings = [first_saying(), second_saying(), third_saying()]
        calls = [(reader, (saying,)) for saying in sayings for reader in (need_saying, pieces_of, count_rows, form_of)]
        calls.extend([(pieces_of, (("not", saying),)) for saying in sayings])
        calls.extend([(count_rows, (("not", sayings[0]),)), (form_of, (("not", sayings[0]),))])
        calls.extend([
            (need_form, (form,)), (form_worlds, (LINE, form)), (both_forms, (form, other)), (both_forms, (other, form)),
            (under_way, (0, form)),
        ])
        for function, args in calls:
            with self.subTest(function.__name__):
                self.assertLess(self.seconds(function, args), MOST_SECONDS)

    def seconds(self, function, args):
        begun = time.perf_counter()
        for _ in range(CALLS):
            try:
                function(*args)
            except TooGreat:
                pass
        return time.perf_counter() - begun


if __name__ == "__main__":
    unittest.main()
