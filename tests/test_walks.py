"""Point 6 and 17: pieces and boxes."""

import random
import unittest

from anymarks.errors import BadSaying, TooGreat
from anymarks.inward import inward
from anymarks.sayings import holding, words_in
from anymarks.walks import head_of, is_box, needed_in, pieces_of
from tests.helpers import (
    NO, P, Q, R, YES, Refusals, box_by, bush, chain, many_sayings, marking_by, no_tuples, plain_box,
    plain_pieces, saying_by, small_webs,
)

NOT_P, NOT_Q, NOT_R = ("not", P), ("not", Q), ("not", R)
READERS = (pieces_of, is_box, head_of, needed_in)


def sayings_for_walks():
    chance = random.Random(31)
    found = many_sayings()
    for number in range(300):
        found.append(saying_by(chance, 2 + number % 5))
        found.append(box_by(chance, 1 + number % 5, 3))
    for number in range(200):
        first, second = [box_by(chance, 1 + number % 3, 3) for _ in range(2)]
        found.append(("each", 0, ("and", first, ("or", NOT_R, ("and", second, NOT_P)))))
    return found


class TestPieces(Refusals, unittest.TestCase):
    def test_each_word(self):
        both = ("and", P, Q)
        for saying, pieces in (
                (P, (P,)), (NOT_P, (NOT_P,)), (YES, (YES,)), (NO, (NO,)), (both, (P, Q)),
                (("and", both, R), (P, Q, R)), (("and", R, both), (R, P, Q)), (("and", P, P), (P, P)),
                (("each", 1, both), (("each", 1, P), ("each", 1, Q))),
                (("each", 1, ("each", -2, both)), (("each", 1, ("each", -2, P)), ("each", 1, ("each", -2, Q)))),
                (("each", 0, ("and", P, NOT_Q)), (("each", 0, P), ("each", 0, NOT_Q))),
                (("some", 1, both), (("some", 1, both),)),
                (("or", both, R), (("or", both, R),)),
                (("or", NOT_R, both), (("or", NOT_R, P), ("or", NOT_R, Q))),
                (("or", both, NOT_R), (("or", P, NOT_R), ("or", Q, NOT_R))),
                (("or", NO, both), (("or", NO, P), ("or", NO, Q))),
                (("each", 0, ("some", 0, both)), (("each", 0, ("some", 0, both)),)),
                (("and", P, ("some", 0, both)), (P, ("some", 0, both)))):
            with self.subTest(saying):
                self.assertEqual(pieces_of(saying), pieces)
                self.assertEqual(pieces_of(saying=saying), pieces)

    def test_what_is_negative_is_one_piece(self):
        for saying in (
                ("and", NOT_P, NOT_Q), ("and", YES, NO), ("or", NOT_P, ("and", NOT_Q, YES)),
                ("each", 0, ("and", NOT_P, NO)), ("some", -1, ("and", NOT_P, NOT_Q))):
            self.assertEqual(pieces_of(saying), (saying,))
        self.assertEqual(pieces_of(("and", P, ("and", NOT_P, NOT_Q))), (P, ("and", NOT_P, NOT_Q)))

    def test_the_saying_is_turned_inward(self):
        self.assertEqual(pieces_of(("not", ("gives", P, NOT_Q))), (P, Q))
        self.assertEqual(pieces_of(("not", ("or", NOT_P, ("some", 2, NOT_Q)))), (P, ("each", 2, Q)))
        self.assertEqual(pieces_of(("gives", P, ("and", Q, R))), (("or", NOT_P, Q), ("or", NOT_P, R)))

    def test_as_the_document_tells(self):
        for saying in sayings_for_walks():
            pieces = pieces_of(saying)
            self.plain(pieces)
            self.assertEqual(pieces, tuple(plain_pieces(inward(saying))))

    def test_all_pieces_together_are_the_saying(self):
        chance = random.Random(32)
        sayings = sayings_for_walks()
        for web in small_webs():
            for saying in chance.sample(sayings, 15):
                marking = marking_by(chance, web[0], 3)
                whole = set(range(web[0]))
                for piece in pieces_of(saying):
                    whole &= set(holding(web, marking, piece))
                self.assertEqual(holding(web, marking, saying), tuple(sorted(whole)))

    def test_many_pieces(self):
        wide = ("each", 0, bush(397))
        self.assertEqual(len(pieces_of(("or", NOT_Q, P))), 1)
        told = pieces_of(("gives", Q, ("each", 0, P)))
        self.assertEqual(told, (("or", NOT_Q, ("each", 0, P)),))
        self.assertEqual(pieces_of(wide), tuple(plain_pieces(inward(wide))))


class TestBoxes(Refusals, unittest.TestCase):
    def test_boxes(self):
        for saying, head, needed in (
                (P, 0, ()), (("letter", 7), 7, ()), (("each", 0, P), 0, ()), (("each", -3, ("each", 2, Q)), 1, ()),
                (("or", NOT_P, Q), 1, (0,)), (("or", Q, NOT_P), 1, (0,)), (("or", NOT_P, P), 0, (0,)),
                (("or", NO, Q), 1, ()), (("or", Q, YES), 1, ()), (("gives", P, Q), 1, (0,)),
                (("each", 0, ("or", NOT_P, ("each", 1, ("or", R, NOT_Q)))), 2, (0, 1)),
                (("or", ("and", NOT_R, ("each", 0, NOT_P)), ("each", 0, Q)), 1, (0, 2)),
                (("or", NOT_P, ("or", Q, NOT_P)), 1, (0,)), (("not", ("some", 1, NOT_P)), 0, ()),
                (("or", ("letter", 4), ("or", ("not", ("letter", 7)), ("some", 0, ("not", ("letter", 5))))), 4, (5, 7)),
                (("or", ("or", P, NOT_R), NOT_Q), 0, (1, 2))):
            with self.subTest(saying):
                self.assertIs(is_box(saying), True)
                self.assertEqual(head_of(saying), head)
                self.assertEqual(needed_in(saying), needed)
                named = (is_box(saying=saying), head_of(saying=saying), needed_in(saying=saying))
                self.assertEqual(named, (True, head, needed))
                self.plain(named)

    def test_no_boxes(self):
        for saying in (
                NOT_P, YES, NO, ("and", P, Q), ("or", P, Q), ("or", NOT_P, NOT_Q), ("or", NOT_P, YES), ("or", NO, NO),
                ("some", 0, P), ("each", 0, ("some", 0, P)), ("each", 0, ("and", P, P)), ("or", P, ("or", Q, NOT_R)),
                ("or", NOT_P, ("or", NOT_Q, NOT_R)), ("or", NOT_P, ("or", Q, R)), ("or", NOT_P, ("some", 0, Q)),
                ("or", ("some", 1, Q), NOT_P), ("each", 0, NOT_P), ("each", 0, YES), ("gives", NOT_P, Q),
                ("or", ("and", NOT_P, Q), R), ("not", P), ("gives", P, NOT_Q)):
            with self.subTest(saying):
                self.assertIs(is_box(saying), False)
                self.no_row(head_of, saying)
                self.no_row(needed_in, saying)
                self.no_row(head_of, saying=saying)

    def test_as_the_document_tells(self):
        found = 0
        for saying in sayings_for_walks():
            box = plain_box(inward(saying))
            self.assertIs(is_box(saying), box is not None)
            if box is None:
                self.no_row(head_of, saying)
                self.no_row(needed_in, saying)
            else:
                found += 1
                self.assertEqual(head_of(saying), box[0])
                self.assertEqual(needed_in(saying), tuple(sorted(box[1])))
        self.assertGreater(found, 300)


class TestRefusals(Refusals, unittest.TestCase):
    def test_wrong_sayings(self):
        for value in [*no_tuples(), (), ("letter", 8), ("here", 0), ("letter", True), ["letter", 0]]:
            for reader in READERS:
                self.refused(BadSaying, "path", (), reader, value)
                self.refused(BadSaying, "path", (1, 2), reader, ("or", ("each", 0, value), 5))

    def test_bounds(self):
        for reader in READERS:
            self.refused(TooGreat, "most", 40, reader, chain(41))
            self.refused(TooGreat, "most", 400, reader, bush(401))

    def test_turned_inward_it_may_be_greater(self):
        # Beneath the not each letter becomes two words.
        denied = ("not", bush(399))
        self.assertEqual(pieces_of(denied), tuple(plain_pieces(inward(denied))))
        held = ("or", bush(397), Q)
        self.assertIs(is_box(held), False)
        needed = P
        for letter in (2, 3, 4, 5, 6, 7):
            needed = ("and", needed, ("or", needed, ("letter", letter)))
        told = ("gives", needed, Q)
        self.assertEqual(words_in(told), 255)
        told = ("gives", ("and", needed, needed[2][1]), Q)
        self.assertEqual(words_in(told), 381)
        # Turned inward this box has more than 400 words.
        self.assertEqual((is_box(told), head_of(told), needed_in(told)), (True, 1, (0, 2, 3, 4, 5, 6, 7)))


if __name__ == "__main__":
    unittest.main()
