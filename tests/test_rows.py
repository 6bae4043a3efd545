"""Point 6, 18, 19 and 20: rows of choices, needing, and sayings in shape."""

import random
import unittest

from anymarks.errors import BadParameter, BadSaying, NoShape, TooGreat
from anymarks.sayings import holding, letters_in, words_in
from anymarks.shapes import count_rows, in_shape, need_shape, needing, needing_order, row_of
from tests.helpers import (
    NO, P, Q, R, YES, OddInteger, Refusals, Touchy, bush, chain, halved, marking_by, no_numbers, no_tuples,
    plain_circles, plain_needs, plain_rows, plain_world_rows, saying_by, shaped_by, small_webs,
)

NOT_P, NOT_Q, NOT_R = ("not", P), ("not", Q), ("not", R)
LETTERS = [("letter", letter) for letter in range(8)]
EXAMPLE = ("gives", ("and", ("each", 0, ("gives", P, Q)), ("or", P, ("some", 0, P))), ("some", 0, Q))
OUT = ("gives", ("each", 0, ("gives", ("each", 0, P), P)), ("each", 0, P))
MCKINSEY = ("gives", ("each", 0, ("some", 0, P)), ("some", 0, ("each", 0, P)))
BY_NUMBER = (row_of, needing, needing_order)


def both(*things):
    saying = things[-1]
    for thing in things[-2::-1]:
        saying = ("and", thing, saying)
    return saying


def either(*things):
    saying = things[-1]
    for thing in things[-2::-1]:
        saying = ("or", thing, saying)
    return saying


def worlds_in_a_line(many, end=P):
    """Opens so many worlds, one from the other."""
    for _ in range(many):
        end = ("some", 0, end)
    return end


def worlds_at_once(many):
    """Opens so many worlds from one."""
    return both(*[("some", -1, P)] * many)


def denied(met):
    return ("not", met)


def chosen(factors):
    """What has, with factors (2, 3), 2 * 3 rows."""
    return halved("and", [
        halved("or", [LETTERS[number % 8] for number in range(many)]) for many in factors
    ])


def needed_for(*pairs):
    """Boxes with the head and the needed letter of each pair."""
    return both(*[("each", 0, ("or", ("not", LETTERS[needed]), LETTERS[head])) for head, needed in pairs])


class TestRowOf(Refusals, unittest.TestCase):
    def test_the_example(self):
        self.assertEqual(count_rows(EXAMPLE), 2)
        box = (0, ("each", 0, ("or", NOT_P, Q)))
        end = ("some", 0, Q)
        self.assertEqual(row_of(EXAMPLE, 0), ((), ((end,),), (box, (0, P))))
        self.assertEqual(row_of(EXAMPLE, 1), (((0, 0),), ((end,), ()), (box, (1, P))))
        self.assertEqual(row_of(number=1, saying=EXAMPLE), row_of(EXAMPLE, 1))
        self.assertEqual(count_rows(saying=EXAMPLE), 2)

    def test_boxes_and_ends_of_the_document(self):
        self.assertEqual(row_of(("gives", ("each", 0, P), P), 0), ((), ((P,),), ((0, ("each", 0, P)),)))
        self.assertEqual(
            row_of(("gives", ("some", 0, ("each", 0, P)), ("each", 0, ("some", 0, P))), 0),
            (((0, 0),), ((("each", 0, ("some", 0, P)),), ()), ((1, ("each", 0, P)),)))
        self.assertEqual(row_of(P, 0), ((), ((P,),), ()))
        self.assertEqual(row_of(NOT_P, 0), ((), ((),), ((0, P),)))
        self.assertEqual(row_of(YES, 0), ((), ((YES,),), ()))
        self.out_of_shape(("each", 0, ("some", 0, P)), (), row_of, MCKINSEY, 0)

    def test_negative_parts_are_ends_whole(self):
        for end in (
                YES, NO, P, ("and", P, Q), ("or", P, ("and", Q, YES)), ("some", 0, P), ("each", 0, ("each", -1, P)),
                ("each", 0, ("some", 1, ("or", P, NO)))):
            self.assertEqual(row_of(end, 0), ((), ((end,),), ()))
            self.assertEqual(count_rows(end), 1)
            met = both(Q, ("some", 2, denied(end)))
            self.assertEqual(row_of(denied(met), 0), ((), ((("each", 2, end),),), ((0, Q),)))
        met = ("each", 0, both(P, NOT_Q, ("or", Q, NOT_R), ("each", 1, ("some", 0, NOT_R))))
        ends = (("some", 0, Q), ("some", 0, ("some", 1, ("each", 0, R))))
        boxes = ((0, ("each", 0, P)), (0, ("each", 0, ("or", Q, NOT_R))))
        self.assertEqual(row_of(denied(met), 0), ((), (ends,), boxes))

    def test_worlds_are_numbered_whole_branches_first(self):
        met = both(
            ("some", 0, both(("some", 1, P), Q, ("some", 2, R))), R, ("some", -1, ("some", -2, Q)), NOT_P)
        tree = ((0, 0), (1, 1), (1, 2), (0, -1), (4, -2))
        boxes = ((2, P), (1, Q), (3, R), (0, R), (5, Q))
        self.assertEqual(row_of(denied(met), 0), (tree, ((P,), (), (), (), (), ()), boxes))

    def test_order_of_rows(self):
        met = both(either(P, Q), either(P, Q, R), ("some", 0, either(R, NOT_R)))
        self.assertEqual(count_rows(denied(met)), 12)
        heads = [tuple(box[1] for _, box in row_of(denied(met), number)[2]) for number in range(12)]
        told = [(first, second) for first in (0, 1) for second in (0, 1, 2) for _ in range(2)]
        self.assertEqual([found[:2] for found in heads], told)
        self.assertEqual([found[2:] for found in heads], [(2,), ()] * 6)
        ends = [row_of(denied(met), number)[1] for number in range(12)]
        self.assertEqual(ends, [((), ()), ((), (R,))] * 6)
        grouped = either(both(P, either(Q, R)), R, both(either(P, Q), either(P, Q)))
        self.assertEqual(count_rows(denied(grouped)), 7)
        heads = [tuple(box[1] for _, box in row_of(denied(grouped), number)[2]) for number in range(7)]
        self.assertEqual(heads, [(0, 1), (0, 2), (2,), (0, 0), (0, 1), (1, 0), (1, 1)])

    def test_an_or_is_a_choice_whatever_its_parts_are(self):
        met = both(("or", NOT_P, Q), ("or", NOT_R, NOT_P))
        self.assertEqual(count_rows(denied(met)), 2)
        self.assertEqual(row_of(denied(met), 0), ((), ((P, ("and", R, P)),), ()))
        self.assertEqual(row_of(denied(met), 1), ((), ((("and", R, P),),), ((0, Q),)))
        self.assertEqual(count_rows(denied(("each", 0, ("or", NOT_P, Q)))), 1)
        self.assertEqual(count_rows(denied(("some", 0, ("or", NOT_P, Q)))), 2)

    def test_count_has_no_bound(self):
        self.assertEqual(count_rows(denied(chosen((2,) * 60))), 2 ** 60)
        self.assertEqual(count_rows(denied(chosen((50, 50, 50)))), 125000)
        most = denied(halved("and", [halved("or", [P, Q, R])] * 66))
        self.assertEqual((words_in(most), count_rows(most)), (396, 3 ** 66))
        self.assertEqual(count_rows(denied(both(either(P, Q), ("each", 0, P), either(P, Q, R)))), 6)

    def test_a_row_told_by_its_number(self):
        saying = denied(chosen((2,) * 60))
        number = 0b101100111000111100001111100000111111000000111111100000001111
        heads = [box[1] for _, box in row_of(saying, number)[2]]
        self.assertEqual(heads, [number >> 59 - place & 1 for place in range(60)])
        self.assertEqual(row_of(saying, 2 ** 60 - 1), ((), ((),), ((0, Q),) * 60))
        self.assertEqual(needing(saying, 2 ** 60 - 1), ((1, ()),))
        self.assertEqual(needing_order(saying, 2 ** 60 - 2), (0, 1))
        self.refused(BadParameter, "value", 2 ** 60, row_of, saying, 2 ** 60)

    def test_eight_worlds_and_nine(self):
        for met in (worlds_in_a_line, worlds_at_once):
            self.assertEqual(len(row_of(denied(met(7)), 0)[1]), 8)
            for function in BY_NUMBER:
                function(denied(met(7)), 0)
                self.refused(TooGreat, "most", 8, function, denied(met(8)), 0)
                self.refused(TooGreat, "most", 8, function, denied(met(30)), 0)
        saying = denied(either(worlds_in_a_line(8), worlds_in_a_line(7)))
        self.refused(TooGreat, "most", 8, row_of, saying, 0)
        self.assertEqual(len(row_of(saying, 1)[0]), 7)

    def test_as_the_document_tells(self):
        chance = random.Random(41)
        checked = 0
        for turn in range(1500):
            saying = shaped_by(chance, 1 + turn % 6) if turn % 3 else saying_by(chance, 2 + turn % 5)
            rows = plain_rows(saying)
            if rows[0] == "wrong":
                self.out_of_shape(rows[1], (), count_rows, saying)
                self.out_of_shape(rows[1], (), row_of, saying, 0)
                continue
            self.assertEqual(count_rows(saying), len(rows))
            for number in chance.sample(range(len(rows)), min(len(rows), 10)):
                self.check(saying, number, rows[number])
                checked += 1
        self.assertGreater(checked, 1500)

    def check(self, saying, number, row):
        if len(row[1]) > 8:
            self.refused(TooGreat, "most", 8, row_of, saying, number)
            return
        self.plain(row_of(saying, number))
        self.assertEqual(row_of(saying, number), row)
        needs = tuple((head, tuple(sorted(needed))) for head, needed in sorted(plain_needs(row).items()))
        self.plain(needing(saying, number))
        self.assertEqual(needing(saying, number), needs)
        circle = plain_circles(row)
        if circle:
            self.out_of_shape(None, circle, needing_order, saying, number)
        else:
            self.assertEqual(needing_order(saying, number), plain_order(dict(needs)))


def plain_order(needs):
    order = ()
    while len(order) < len(needs):
        order += (min(
            head for head in needs if head not in order
            and all(other in order for other in needs[head] if other in needs)
        ),)
    return order


class TestFacts(unittest.TestCase):
    def test_a_saying_fails_where_some_row_tells_so(self):
        chance = random.Random(42)
        webs = [web for web in small_webs() if web[0] <= 4]
        checked = 0
        while checked < 500:
            saying = shaped_by(chance, chance.randint(2, 4))
            rows = plain_rows(saying)
            if max(len(row[1]) for row in rows) > 5 or len(rows) > 12:
                continue
            checked += 1
            web = chance.choice(webs)
            marking = marking_by(chance, web[0], 3)
            there = holding(web, marking, saying)
            told = [row_of(saying, number) for number in range(count_rows(saying))]
            for world in range(web[0]):
                fails = any(self.met(web, marking, row, world) for row in told)
                self.assertEqual(world not in there, fails, (web, marking, saying, world))

    def met(self, web, marking, row, world):
        """Whether along the TREE of the row all its boxes hold and no end does."""
        tree, ends, boxes = row
        boxes = [(place, set(holding(web, marking, box))) for place, box in boxes]
        ends = [[set(holding(web, marking, end)) for end in met] for met in ends]
        return any(
            all(worlds[place] in box for place, box in boxes)
            and not any(there in end for there, met in zip(worlds, ends) for end in met)
            for worlds in plain_world_rows(web, tree, world)
        )


class TestNeeding(Refusals, unittest.TestCase):
    def test_the_example(self):
        self.assertEqual(needing(EXAMPLE, 1), ((0, ()), (1, (0,))))
        self.assertEqual(needing_order(EXAMPLE, 1), (0, 1))
        self.assertEqual(needing(number=0, saying=EXAMPLE), ((0, ()), (1, (0,))))
        self.assertEqual(needing_order(number=0, saying=EXAMPLE), (0, 1))

    def test_over_all_boxes_with_a_head(self):
        met = both(needed_for((5, 7), (2, 5), (5, 3), (5, 7)), LETTERS[5], LETTERS[6])
        self.assertEqual(needing(denied(met), 0), ((2, (5,)), (5, (3, 7)), (6, ())))
        self.assertEqual(needing_order(denied(met), 0), (5, 2, 6))
        self.assertEqual(needing(NOT_P, 0), ((0, ()),))
        self.assertEqual(needing(P, 0), ())
        self.assertEqual(needing_order(P, 0), ())

    def test_the_least_one_that_is_free(self):
        for pairs, order in (
                (((0, 1), (1, 2), (2, 3)), (2, 1, 0)), (((0, 1), (1, 2), (2, 3), (3, 7)), (3, 2, 1, 0)),
                (((0, 4), (1, 4), (2, 0), (3, 1)), (0, 1, 2, 3)), (((3, 1), (2, 3), (1, 0), (0, 7)), (0, 1, 3, 2)),
                (((0, 5), (5, 2), (2, 7), (1, 0)), (2, 5, 0, 1)), (((0, 3), (1, 3), (3, 4), (2, 6)), (2, 3, 0, 1))):
            self.assertEqual(needing_order(denied(needed_for(*pairs)), 0), order)

    def test_letters_needed_for_themselves(self):
        for pairs, letters in (
                (((0, 0),), (0,)), (((3, 3), (1, 2)), (3,)), (((0, 1), (1, 0)), (0, 1)),
                (((5, 2), (2, 7), (7, 5), (1, 5), (2, 0)), (2, 5, 7)), (((0, 1), (1, 0), (3, 0), (6, 6)), (0, 1, 6)),
                (tuple((letter, (letter + 1) % 8) for letter in range(8)), tuple(range(8))),
                (((0, 1), (1, 2), (2, 1), (0, 3), (3, 4), (4, 3)), (1, 2, 3, 4))):
            saying = denied(needed_for(*pairs))
            self.out_of_shape(None, letters, needing_order, saying, 0)
            self.out_of_shape(None, letters, need_shape, saying)
            self.assertIs(in_shape(saying), False)
            # What needs what is told all the same.
            self.assertEqual([head for head, _ in needing(saying, 0)], sorted({head for head, _ in pairs}))
        self.assertEqual(needing(denied(needed_for((0, 0), (0, 2))), 0), ((0, (0, 2)),))

    def test_needed_over_worlds(self):
        met = both(("each", 0, ("or", NOT_P, Q)), ("some", 1, ("each", -1, ("or", P, ("each", 0, NOT_Q)))))
        self.out_of_shape(None, (0, 1), needing_order, denied(met), 0)


class TestInShape(Refusals, unittest.TestCase):
    def test_the_examples(self):
        self.assertIs(need_shape(EXAMPLE), EXAMPLE)
        self.assertIs(need_shape(saying=EXAMPLE), EXAMPLE)
        self.assertIs(in_shape(EXAMPLE), True)
        self.out_of_shape(None, (0,), need_shape, OUT)
        self.assertIs(in_shape(saying=OUT), False)
        self.out_of_shape(("each", 0, ("some", 0, P)), (), need_shape, MCKINSEY)
        self.assertIs(in_shape(MCKINSEY), False)

    def test_the_first_piece_of_the_walk(self):
        first, second = ("each", 1, ("some", 2, P)), ("each", 0, ("or", P, Q))
        for met in (
                both(first, second), either(first, second), either(P, first, second), both(second[2], first, second),
                either(both(P, first), second), ("some", 0, both(NOT_P, either(R, first), second)),
                either(worlds_in_a_line(9), first)):
            self.wrong_piece(denied(met), first)
        within = ("each", 0, both(P, NOT_Q, ("each", 2, both(R, ("some", 1, P), ("or", P, Q)))))
        self.wrong_piece(denied(within), ("each", 0, ("each", 2, ("some", 1, P))))
        held = ("each", 0, ("or", both(P, ("some", 0, Q)), ("each", 0, NOT_R)))
        self.wrong_piece(denied(held), ("each", 0, ("or", ("some", 0, Q), ("each", 0, NOT_R))))
        held = ("each", 0, ("gives", R, both(P, either(P, Q))))
        self.wrong_piece(denied(held), ("each", 0, ("or", NOT_R, ("or", P, Q))))

    def wrong_piece(self, saying, piece):
        for function in (count_rows, need_shape):
            self.out_of_shape(piece, (), function, saying)
        for function in BY_NUMBER:
            for number in (0, 1, -1, None, True, Touchy(), [0], 10 ** 5000):
                self.out_of_shape(piece, (), function, saying, number)
        self.assertIs(in_shape(saying), False)

    def test_sixty_rows_and_more(self):
        for factors, fits in (
                ((60,), True), ((61,), False), ((2, 30), True), ((3, 4, 5), True), ((2, 31), False),
                ((2,) * 60, False)):
            saying = denied(chosen(factors))
            for function in (need_shape, in_shape):
                if fits:
                    function(saying)
                else:
                    self.refused(TooGreat, "most", 60, function, saying)

    def test_worlds_of_rows(self):
        for met in (worlds_in_a_line, worlds_at_once):
            self.assertIs(in_shape(denied(met(7))), True)
            for saying in (
                    denied(met(8)), denied(either(met(7), met(8))), denied(either(met(8), P)),
                    denied(either(P, both(met(7), either(P, ("some", 0, P)))))):
                self.refused(TooGreat, "most", 8, need_shape, saying)
                self.refused(TooGreat, "most", 8, in_shape, saying)

    def test_needed_in_a_later_row_alone(self):
        held = [needed_for(pair) for pair in ((0, 1), (1, 0), (2, 2))]
        for met, letters in (
                (either(P, both(held[0], held[1])), (0, 1)), (either(held[2], both(held[0], held[1])), (2,)),
                (both(held[0], either(P, Q, held[1])), (0, 1)), (either(held[0], held[1], both(P, held[2])), (2,)),
                (both(either(held[0], held[2]), either(held[1], Q)), (0, 1)),
                (both(either(held[0], Q), either(R, both(held[1], held[2]))), (0, 1, 2))):
            self.out_of_shape(None, letters, need_shape, denied(met))
            self.assertIs(in_shape(denied(met)), False)
        self.assertIs(in_shape(denied(either(held[0], held[1]))), True)

    def test_which_refusal_comes_first(self):
        piece = ("each", 1, ("some", 2, P))
        many, worlds, circle = chosen((61,)), worlds_in_a_line(8), ("each", 0, ("or", NOT_P, P))
        self.out_of_shape(piece, (), need_shape, denied(both(many, worlds, circle, piece)))
        self.out_of_shape(piece, (), in_shape_raising, denied(both(many, worlds, circle, piece)))
        self.refused(TooGreat, "most", 60, need_shape, denied(both(circle, worlds, many)))
        self.refused(TooGreat, "most", 60, in_shape, denied(both(circle, worlds, many)))
        self.refused(TooGreat, "most", 8, need_shape, denied(both(circle, worlds)))
        self.refused(TooGreat, "most", 8, need_shape, denied(either(circle, P, worlds)))
        self.refused(TooGreat, "most", 8, in_shape, denied(either(circle, P, worlds)))
        self.out_of_shape(None, (0,), need_shape, denied(either(circle, P, worlds_in_a_line(7))))

    def test_as_the_document_tells(self):
        chance = random.Random(43)
        found = {True: 0, False: 0}
        for turn in range(1500):
            saying = shaped_by(chance, 1 + turn % 6) if turn % 3 else saying_by(chance, 2 + turn % 5)
            rows = plain_rows(saying)
            if rows[0] != "wrong" and len(rows) > 60:
                self.refused(TooGreat, "most", 60, in_shape, saying)
            elif rows[0] != "wrong" and max(len(row[1]) for row in rows) > 8:
                self.refused(TooGreat, "most", 8, in_shape, saying)
            else:
                circles = [plain_circles(row) for row in rows] if rows[0] != "wrong" else []
                told = rows[0] != "wrong" and not any(circles)
                found[told] += 1
                self.assertIs(in_shape(saying), told, saying)
                if told:
                    self.assertIs(need_shape(saying), saying)
                elif circles:
                    self.out_of_shape(None, [one for one in circles if one][0], need_shape, saying)
                else:
                    self.out_of_shape(rows[1], (), need_shape, saying)
        self.assertGreater(min(found.values()), 150)


def in_shape_raising(saying):
    """in_shape, its False told by the error behind it."""
    if not in_shape(saying):
        need_shape(saying)


class TestRefusals(Refusals, unittest.TestCase):
    def test_wrong_sayings(self):
        for value in [*no_tuples(), (), ("letter", 8), ("here", 0), ["letter", 0]]:
            for reader in (count_rows, need_shape, in_shape):
                self.refused(BadSaying, "path", (), reader, value)
                self.refused(BadSaying, "path", (2, 1), reader, ("each", 0, ("not", value)))
            for function in BY_NUMBER:
                for number in (0, -1, "0", [0], Touchy()):
                    self.refused(BadSaying, "path", (), function, value, number)
                    self.refused(BadSaying, "path", (1,), function, ("or", value, 5), number)
        for saying, most in ((chain(41), 40), (bush(401), 400)):
            for reader in (count_rows, need_shape, in_shape):
                self.refused(TooGreat, "most", most, reader, saying)
            for function in BY_NUMBER:
                self.refused(TooGreat, "most", most, function, saying, -1)

    def test_wrong_numbers(self):
        for value in [-1, 2, 3, 60, 10 ** 5000, OddInteger(0), OddInteger(1), Touchy(), *no_numbers()]:
            for function in BY_NUMBER:
                self.refused(BadParameter, "value", value, function, EXAMPLE, value)
        for value in (-1, 1):
            for function in BY_NUMBER:
                self.refused(BadParameter, "value", value, function, YES, value)
                self.refused(BadParameter, "value", value, function, OUT, value)
                # The rows themselves are looked at behind their number.
                self.refused(BadParameter, "value", value, function, denied(worlds_in_a_line(8)), value)
        many = denied(chosen((8, 8)))
        for function in BY_NUMBER:
            self.refused(BadParameter, "value", 64, function, many, 64)
            function(many, 63)

    def test_letters_alone_do_not_stop_the_row(self):
        self.assertEqual(needing(OUT, 0), ((0, (0,)),))
        self.assertEqual(row_of(OUT, 0)[2], ((0, ("each", 0, ("or", ("some", 0, NOT_P), P))),))
        self.assertEqual(letters_in(OUT), (0,))
        with self.assertRaises(NoShape):
            needing_order(OUT, 0)


if __name__ == "__main__":
    unittest.main()
