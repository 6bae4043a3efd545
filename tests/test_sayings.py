"""Point 3 and 12: sayings, their words, how deep they are, their letters."""

import unittest

from anymarks.errors import BadSaying, TooGreat
from anymarks.sayings import deep_in, letters_in, need_saying, words_in
from tests.helpers import (
    NO, P, Q, R, WAYS, YES, OddInteger, OddText, Refusals, Touchy, bush, chain, many_sayings, no_numbers,
    no_tuples,
)

ONE_OF_EACH = ("and", ("or", P, ("gives", YES, NO)), ("each", -3, ("some", 2, ("not", Q))))
READERS = (need_saying, words_in, deep_in, letters_in)


def wrong_things():
    """Values that are wrong in themselves."""
    found = [*no_tuples(), (), ((),), (P,), ((), ())]
    for words in (
            ("letter",), ("letter", 0, 0), ("yes", YES), ("no", NO), ("not",), ("not", P, P), ("and",),
            ("and", P), ("and", P, P, P), ("or", P), ("or", P, P, P), ("gives", P), ("gives", P, P, P),
            ("each", P), ("each", 0), ("each", 0, P, P), ("some", P), ("some", 0), ("some", 0, P, P)):
        found.append(words)
    found.extend([["yes"], ["letter", 0], ["not", P], "yes", "no", ("yes", ()), ("not", ), {"yes"}])
    for word in (
            "", "Yes", "yes ", "letters", "nor", "here", "node", b"yes", OddText("yes"), OddText("odd"),
            0, None, True, ("yes",), ["yes"], {}, Touchy()):
        found.extend([(word,), (word, P), (word, 0), (word, P, P), (word, 0, P)])
    for number in [-1, 8, 10 ** 5000, OddInteger(0), *no_numbers()]:
        found.append(("letter", number))
    for number in [-4, 3, 10 ** 5000, OddInteger(0), *no_numbers(), P]:
        found.extend([("each", number, P), ("some", number, P)])
    return found


class TestNeedSaying(Refusals, unittest.TestCase):
    def test_sayings_come_back_as_handed_in(self):
        for saying in (P, YES, NO, ONE_OF_EACH, *many_sayings()):
            self.assertIs(need_saying(saying), saying)
            self.assertIs(need_saying(saying=saying), saying)

    def test_each_letter_and_each_way(self):
        for letter in range(8):
            self.assertEqual(need_saying(("letter", letter)), ("letter", letter))
        for way in WAYS:
            for word in ("each", "some"):
                self.assertEqual(need_saying((word, way, P)), (word, way, P))

    def test_wrong_in_itself(self):
        for value in wrong_things():
            for reader in READERS:
                self.refused(BadSaying, "path", (), reader, value)

    def test_path_of_a_wrong_part(self):
        for value in wrong_things():
            self.refused(BadSaying, "path", (1,), need_saying, ("not", value))
            for word in ("and", "or", "gives"):
                self.refused(BadSaying, "path", (1,), need_saying, (word, value, P))
                self.refused(BadSaying, "path", (2,), need_saying, (word, P, value))
            for word in ("each", "some"):
                self.refused(BadSaying, "path", (2,), need_saying, (word, -1, value))

    def test_path_of_a_wrong_part_far_within(self):
        within = ("and", P, ("each", 0, ("gives", ("not", ("some", -3, 5)), Q)))
        for reader in READERS:
            self.refused(BadSaying, "path", (2, 2, 1, 1, 2), reader, within)

    def test_a_whole_is_ahead_of_its_parts(self):
        self.refused(BadSaying, "path", (), need_saying, ("each", 3, ("letter", 9)))
        self.refused(BadSaying, "path", (1,), need_saying, ("not", ("and", ("letter", 9))))
        self.refused(BadSaying, "path", (2,), need_saying, ("some", 2, ("each", -4, 0)))

    def test_parts_are_met_from_the_left(self):
        self.refused(BadSaying, "path", (1,), need_saying, ("or", 0, 1))
        self.refused(BadSaying, "path", (1, 1, 1), need_saying, ("or", ("not", ("not", 0)), 1))
        self.refused(BadSaying, "path", (1, 2), need_saying, ("and", ("or", P, 0), ("or", 0, P)))
        self.refused(BadSaying, "path", (2, 1), need_saying, ("and", ("or", P, P), ("or", 0, 0)))


class TestBoundsOfSayings(Refusals, unittest.TestCase):
    def test_most_words(self):
        for words in (1, 2, 3, 4, 5, 399, 400):
            saying = bush(words)
            self.assertIs(need_saying(saying), saying)
            self.assertEqual(words_in(saying), words)
        for words in (401, 402, 5000):
            for reader in READERS:
                self.refused(TooGreat, "most", 400, reader, bush(words))

    def test_most_deep(self):
        for deep in (1, 2, 39, 40):
            saying = chain(deep)
            self.assertIs(need_saying(saying), saying)
            self.assertEqual(deep_in(saying), deep)
        for deep in (41, 42, 5000):
            for reader in READERS:
                self.refused(TooGreat, "most", 40, reader, chain(deep))

    def test_each_word_leads_deeper(self):
        for deep, error in ((39, None), (40, TooGreat)):
            end = chain(deep)
            for word in ("and", "or", "gives"):
                for saying in ((word, end, P), (word, P, end)):
                    self.needed(saying, error)
            for word in ("each", "some"):
                self.needed((word, 0, end), error)

    def needed(self, saying, error):
        if error is None:
            self.assertIs(need_saying(saying), saying)
        else:
            self.refused(error, "most", 40, need_saying, saying)

    def test_wrong_at_the_last_depth(self):
        self.refused(BadSaying, "path", (1,) * 39, need_saying, chain(40, 5))
        self.refused(TooGreat, "most", 40, need_saying, chain(41, 5))
        self.refused(TooGreat, "most", 40, need_saying, chain(41, Touchy()))

    def test_wrong_as_the_last_word(self):
        self.refused(BadSaying, "path", (2,), need_saying, ("and", bush(398), 5))
        self.refused(TooGreat, "most", 400, need_saying, ("and", bush(399), 5))
        self.refused(TooGreat, "most", 400, need_saying, ("and", bush(399), Touchy()))

    def test_what_is_met_first_is_told(self):
        deep, broad, wrong = chain(41), bush(401), ("letter", 8)
        for word in ("and", "or", "gives"):
            self.refused(TooGreat, "most", 40, need_saying, (word, deep, broad))
            self.refused(TooGreat, "most", 400, need_saying, (word, broad, deep))
            self.refused(TooGreat, "most", 40, need_saying, (word, deep, wrong))
            self.refused(BadSaying, "path", (1,), need_saying, (word, wrong, deep))
            self.refused(TooGreat, "most", 400, need_saying, (word, broad, wrong))
            self.refused(BadSaying, "path", (1,), need_saying, (word, wrong, broad))

    def test_too_deep_is_asked_ahead_of_too_many(self):
        # The 401st thing met is the 41st on the way to it, too.
        at_both = ("and", bush(360), chain(40))
        self.refused(TooGreat, "most", 40, need_saying, at_both)
        # And one sooner, one later.
        self.refused(TooGreat, "most", 40, need_saying, ("and", bush(359), chain(40)))
        self.refused(TooGreat, "most", 400, need_saying, ("and", bush(361), chain(40)))

    def test_endless_parts_shared(self):
        shared = P
        for _ in range(39):
            shared = ("and", shared, shared)
        self.refused(TooGreat, "most", 400, need_saying, shared)
        self.refused(TooGreat, "most", 40, need_saying, ("not", shared))


class TestWords(Refusals, unittest.TestCase):
    def test_one_of_each(self):
        self.assertEqual(words_in(ONE_OF_EACH), 10)
        self.assertEqual(deep_in(ONE_OF_EACH), 5)
        self.assertEqual(letters_in(ONE_OF_EACH), (0, 1))

    def test_each_as_often_as_it_stands_there(self):
        self.assertEqual(words_in(("and", P, P)), 3)
        self.assertEqual(words_in(("gives", ("each", 0, P), ("each", 0, P))), 5)

    def test_letters(self):
        self.assertEqual(letters_in(YES), ())
        self.assertEqual(letters_in(("letter", 7)), (7,))
        self.assertEqual(letters_in(("or", R, ("and", ("letter", 7), ("or", R, P)))), (0, 2, 7))
        self.assertEqual(letters_in(("each", 1, ("some", 1, ("not", YES)))), ())

    def test_as_the_document_tells(self):
        for saying in many_sayings():
            words = plain_words(saying)
            told = (words_in(saying), deep_in(saying=saying), letters_in(saying=saying))
            self.plain(told)
            letters = {word[1] for word, _ in words if word[0] == "letter"}
            deepest = max(deep for _, deep in words)
            self.assertEqual(told, (len(words), deepest, tuple(sorted(letters))))


def plain_words(saying, deep=1):
    """All words with how deep they stand."""
    found = [(saying, deep)]
    for part in saying:
        if isinstance(part, tuple):
            found.extend(plain_words(part, deep + 1))
    return found


if __name__ == "__main__":
    unittest.main()
