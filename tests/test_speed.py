"""The greatest webs and sayings that may be handed in are answered without delay."""

import time
import unittest

from anymarks.away import away, is_away_paper, led_away, put_away
from anymarks.back import bared, saying_of
from anymarks.closings import added, closed_web, closing_paper, is_closed, is_closing_paper
from anymarks.closures import in_closure, telling
from anymarks.errors import NoShape, TooGreat
from anymarks.failing import failing, is_failing
from anymarks.folds import all_folds, is_fold, least_image
from anymarks.formdeeds import both_forms, either_forms, under_way
from anymarks.forms import breaks, fact_worlds, form_holds, form_worlds, need_form, rows_at
from anymarks.forward import forward_saying, is_forward
from anymarks.inward import inward, is_negative, is_positive, turned_about
from anymarks.kept import fails_by, is_kept, tried
from anymarks.lots import lot_keeps, lot_of, moved, moves_at, need_lot
from anymarks.parts import beside, closed_from, part_of
from anymarks.pictures import goes_through, is_pictured, part_from, root_of
from anymarks.sayings import (
    deep_in, holding, holds, letters_in, need_marking, need_saying, put_in, renamed, words_in,
)
from anymarks.shapes import count_rows, in_shape, need_shape, needing, needing_order, row_of
from anymarks.there import facts_of, form_of, kept_worlds, same_forms
from anymarks.walks import head_of, is_box, needed_in, pieces_of
from anymarks.webs import kinds_changed, led_to, need_web, web_turned
from tests.helpers import GREAT_WEB, NO, P, Q, R, YES, bush, chain, eaches, halved, tall_fact, wide_fact

FULL_WEB = (200, tuple(sorted([
    (kind, start, (7 * start + step) % 200)
    for kind, many in ((0, 2), (1, 2), (2, 1)) for start in range(200) for step in range(many)
])))
MARKING = tuple([tuple(range(letter, 200, letter + 1)) for letter in range(8)])
MOST_SECONDS = 5


def wide(words):
    """A saying of so many words, nearly all of them an each or a some."""
    if words <= 30:
        saying = P
        for step in range(words - 1):
            saying = (("each", "some")[step % 2], step % 6 - 3, saying)
        return saying
    first = (words - 1) // 2
    return ("or", wide(first), wide(words - 1 - first))


def tall():
    """A saying of 400 words and 40 deep."""
    saying = ("letter", 7)
    for height in range(1, 40):
        saying = ("gives", wide(min(height, 10 if height < 25 else 11)), saying)
    return saying


def all_to_all(size):
    """The arrows of a web in which all lead to all."""
    return tuple((0, start, end) for start in range(size) for end in range(size))


def wide_term(words):
    """A term of so many words, without the letter 0 if there is just one."""
    if words <= 2:
        return ("here", 7) if words == 1 else ("not", ("letter", 1))
    first = (words - 1) // 2
    return ("and", ("some", 0, wide_term(first - 1)) if first > 1 else Q, wide_term(words - 1 - first))


def marked(letters):
    """What the first so many letters stand in, and is not kept."""
    return halved("and", [("letter", letter) for letter in range(letters)] * 2)


def renamed_away(saying):
    """A saying with "yes" in the stead of its letters."""
    if saying[0] == "letter":
        return YES
    return tuple(renamed_away(part) if isinstance(part, tuple) else part for part in saying)


def number_of_ones(number):
    return f"{number:b}".count("1")


class TestSpeed(unittest.TestCase):
    def setUp(self):
        self.begun = time.perf_counter()

    def tearDown(self):
        self.assertLess(time.perf_counter() - self.begun, MOST_SECONDS)

    def test_webs(self):
        for web in (GREAT_WEB, FULL_WEB):
            self.assertEqual((web[0], len(need_web(web)[1])), (200, 1000))
            web_turned(web)
            kinds_changed(web, (1, 1, 0))
            for way in range(-3, 3):
                for world in (0, 1, 100, 199):
                    led_to(web, way, world)

    def test_sayings(self):
        for saying in (wide(400), tall(), chain(40), bush(400)):
            for reader in (need_saying, letters_in, inward, turned_about, is_positive, is_negative):
                reader(saying)
            renamed(saying, (0,) * 8)
            put_in(saying, 0, ("yes",))
            for web in (GREAT_WEB, FULL_WEB):
                need_marking(web, MARKING)
                holding(web, MARKING, saying)
                holds(web, MARKING, saying, 199)

    def test_all_markings(self):
        for size, letters in ((12, 1), (6, 2), (4, 3), (3, 4), (2, 6), (1, 8)):
            web = (size, tuple((0, start, end) for start in range(size) for end in range(size)))
            saying = ("or", wide(360), marked(letters))
            tried(web, saying)
            for world in range(size):
                if not is_kept(web, saying, world):
                    fails_by(web, saying, world)
        for web in (GREAT_WEB, FULL_WEB):
            saying = renamed_away(tall())
            self.assertEqual(tried(web, saying), holding(web, (), saying))
            self.assertIs(is_kept(web, saying, 199), holds(web, (), saying, 199))

    def test_walks(self):
        held = P
        for step in range(38):
            held = ("each", 0, held) if step % 3 else ("or", held, ("not", ("letter", 1 + step % 7)))
        self.assertEqual((is_box(held), head_of(held), needed_in(held)), (True, 0, (1, 2, 3, 4, 5, 6, 7)))
        spread = halved("and", [P, Q] * 70)
        for _ in range(15):
            spread = ("or", spread, ("and", ("not", P), ("not", R)))
        self.assertEqual(len(pieces_of(("each", 0, spread))), 140)
        for saying in (wide(400), tall(), chain(40), bush(400), spread):
            pieces_of(saying)
            is_box(saying)

    def test_rows_of_choices(self):
        choice = halved("or", [("each", 0, ("or", ("not", P), Q)), ("and", P, R)])
        many = ("not", halved("and", [choice] * 30))
        self.assertEqual(count_rows(many), 2 ** 30)
        for number in (0, 1234567, 2 ** 30 - 1):
            self.assertEqual(len(row_of(many, number)[2]), 30 + number_of_ones(number))
            needing(many, number)
            needing_order(many, number)
        wide_row = halved("and", [("some", 0, ("and", P, Q)) for _ in range(7)] + [("each", 0, ("and", P, R))] * 30)
        sixty = ("not", ("and", wide_row, halved("or", [P] * 60)))
        self.assertIs(need_shape(sixty), sixty)
        self.assertIs(in_shape(sixty), True)

    def test_rows_of_worlds(self):
        line = tuple((place, 0) for place in range(5))
        ring = (200, tuple(sorted(
            (0, world, (7 * world + 31 * step) % 200) for world in range(200) for step in range(5))))
        back = ("here", 0)
        for _ in range(4):
            back = ("some", -1, back)
        for facts in (
                (NO,) * 5 + (back,), (NO,) * 6, (NO,) * 5 + (("or", ("here", 5), ("and", ("here", 0), ("here", 1))),)):
            clause = (line, facts)
            self.assertEqual(rows_at(ring, clause, 0), 3125)
            form_worlds(ring, (clause,))
        form_worlds(ring, ((line, (NO,) * 5 + (YES,)),) * 60)
        fan = (200, tuple((0, 0, 1 + step) for step in range(70)) + tuple((1, 0, 100 + step) for step in range(71)))
        spread = ((0, 0), (0, 1))
        for facts in ((NO, NO, NO), (NO, ("here", 1), NO), (wide_fact(660), wide_fact(660), wide_fact(660))):
            form = ((spread, facts),)
            self.assertEqual(rows_at(fan, form[0], 0), 4970)
            form_worlds(fan, form)
            if not form_holds(fan, form, 0):
                breaks(fan, form, 0)

    def test_facts(self):
        for web in (GREAT_WEB, FULL_WEB):
            fact_worlds(web, wide_fact(2000), (199,))
            fact_worlds(web, tall_fact(100), (0,) * 8)
            form = tuple([((), (wide_fact(33),))] * 60)
            self.assertIs(need_form(form), form)
            form_worlds(web, form)

    def test_rows_without_number(self):
        # None of the 199 ** 6 beginnings goes on to a whole row.
        web = (200, tuple((0, 0, 1 + step) for step in range(199)))
        form = ((((0, 0),) * 6 + ((0, 1),), (NO,) * 7 + (("here", 6),)),)
        self.assertEqual(form_worlds(web, form), tuple(range(200)))

    def test_forms_read_off(self):
        line = P
        for _ in range(5):
            line = ("some", 0, line)
        ring = (200, tuple(sorted((0, world, (world + step) % 200) for world in range(200) for step in range(5))))
        spread = ("gives", line, ("each", 0, ("some", -1, ("or", P, Q))))
        self.assertEqual(len(kept_worlds(ring, spread)), 0)
        clause, worlds, marking = failing(ring, spread, 199)
        self.assertEqual((clause, len(worlds)), (0, 6))
        self.assertIs(is_failing(ring, spread, 199, marking), True)
        sixty = ("not", ("and", halved("or", [P] * 60), ("and", line, ("each", 0, ("or", Q, ("not", P))))))
        self.assertEqual(len(form_of(sixty)), 60)
        self.assertEqual(kept_worlds(ring, sixty), ())
        self.assertEqual(failing(ring, sixty, 7)[0], 0)
        self.assertIs(same_forms(sixty, sixty), True)
        facts_of(sixty, 59)
        held = ("not", ("and", sixty[1], ("not", ("each", 0, ("some", -1, P)))))
        self.assertEqual(len(kept_worlds(ring, held)), 200)

    def test_far_too_great_forms(self):
        boxes = P
        for letter in range(7):
            needed = ("and", ("letter", letter), ("letter", letter))
            needed = ("and", ("and", needed, needed), ("and", needed, needed))
            boxes = ("and", boxes, ("each", 0, ("gives", needed, ("letter", letter + 1))))
        saying = ("gives", boxes, ("some", 0, ("letter", 7)))
        for reader in (form_of, bared, lambda one: kept_worlds(GREAT_WEB, one), lambda one: facts_of(one, 0)):
            with self.assertRaises(TooGreat):
                reader(saying)
        self.assertIs(need_shape(saying), saying)
        told = failing(GREAT_WEB, ("gives", boxes, ("some", 0, P)), 199)
        self.assertEqual(told[2][0], (199,))
        for saying in (wide(400), tall(), chain(40), bush(400)):
            for reader in (form_of, bared, lambda one: kept_worlds(GREAT_WEB, one)):
                try:
                    reader(saying)
                except (NoShape, TooGreat):
                    pass

    def test_forms_of_forms(self):
        line = tuple((place, 0) for place in range(5))
        form = tuple((line[:2], (NO, ("some", way, ("here", 0)), wide_fact(12))) for way in range(-3, 3))
        told = either_forms(form, form + form[:4])
        self.assertEqual((len(told), len(told[0][1])), (60, 5))
        self.assertEqual(len(both_forms(told[:30], told[30:])), 60)
        self.assertEqual(len(under_way(-1, told)), 60)
        for web in (GREAT_WEB, FULL_WEB):
            form_worlds(web, told)
        with self.assertRaises(TooGreat):
            saying_of(told)
        with self.assertRaises(TooGreat):
            either_forms(((line, (tall_fact(100),) * 6),) * 3, ((line[:2], (tall_fact(100),) * 3),) * 20)
        saying_of(((line, (NO,) * 6),) * 10)

    def test_lots(self):
        lot = tuple((wide_term(33), wide_term(33)) for _ in range(30))
        self.assertIs(need_lot(lot), lot)
        for web in (GREAT_WEB, FULL_WEB):
            lot_keeps(web, lot, MARKING, tuple(range(192, 200)))
        for place in range(30):
            for word in moves_at(lot, place):
                try:
                    moved(lot, place, word)
                except TooGreat:
                    pass
        great = ((wide_term(900), wide_term(900)),)
        for word in ("turn", "lift", "carry", "inward"):
            moved(great, 0, word)

    def test_papers_of_steps(self):
        for lines, words in ((30, 30), (1, 990)):
            line = (wide_term(words), ("each", 0, wide_term(words)))
            paper = (("under", 0), ("over", 0), ("inward", 0), ("least", 7)) * 100
            told = led_away((line,) * lines, paper)
            self.assertEqual(len(told), lines)
            self.assertIs(is_away_paper((line,) * lines, told, paper), True)
        ends = [("letter", letter) for letter in range(8)] * 4
        boxes = [("each", 0, ("gives", ("letter", letter), ("letter", letter + 1))) for letter in range(7)] * 2
        saying = ("gives", halved("and", [P, *boxes]), halved("or", ends))
        for letters in ((0, 1, 2, 3, 4, 5, 6, 7), (7, 6, 5, 4, 3, 2, 1, 0), (3, 6, 0, 7, 1, 5, 2, 4)):
            try:
                goal, paper = away(saying, 0, letters)
            except TooGreat:
                continue
            self.assertIs(is_away_paper(lot_of(saying, 0), goal, paper), True)
        held = ("not", ("and", eaches(28, halved("and", [P] * 13)), eaches(35, P)))
        goal, paper = away(held, 0, (0,))
        self.assertEqual((goal, len(paper)), ((), 400))

    def test_putting_away(self):
        lot = tuple((wide_term(30), P) for _ in range(29)) + ((P, YES),)
        self.assertEqual(len(put_away(lot, 0, "least")), 1)
        with self.assertRaises(TooGreat):
            put_away(lot[:29] + ((halved("and", [P] * 500), YES),), 0, "least")
        turned = tuple((second, first) for first, second in lot)
        self.assertEqual(len(put_away(turned, 0, "greatest")), 1)

    def test_forward_forms(self):
        ends = [("some", -1 - step % 3, ("here", step % 2)) for step in range(6)]
        form = ((((0, 0),), (halved("or", ends * 110), NO)),)
        self.assertIs(is_forward(form), True)
        with self.assertRaises(TooGreat):
            forward_saying(form)
        sixty = ((((0, 0),), (halved("or", ends), NO)),) * 60
        self.assertIs(is_forward(sixty), True)
        with self.assertRaises(TooGreat):
            forward_saying(sixty)
        forward_saying(((((0, 0),), (halved("or", ends * 15), NO)),))

    def test_parts(self):
        for web in (GREAT_WEB, FULL_WEB):
            for both in (True, False):
                worlds = closed_from(web, (199,) * 200, both)
                self.assertEqual(part_of(web, worlds)[0], len(worlds))
        small = (20, tuple((0, start, end) for start in range(10) for end in range(10)))
        self.assertEqual(beside((small,) * 10)[0], 200)

    def test_folds(self):
        line = (200, tuple((0, world, world + 1) for world in range(199)))
        ring = (200, tuple(sorted((0, world, (world + 1) % 200) for world in range(200))))
        wide_ring = (200, tuple(sorted((0, world, (world + step) % 200) for world in range(200) for step in range(5))))
        fan = (200, tuple((0, 0, world) for world in range(1, 200)))
        for web, worlds in ((line, 200), (ring, 1), (wide_ring, 1), (fan, 2), (FULL_WEB, 1)):
            for both in (True, False):
                image, fold = least_image(web, both)
                self.assertEqual(image[0], worlds)
                self.assertIs(is_fold(web, image, both, fold), True)
                if worlds == 1:
                    self.assertEqual(all_folds(web, image, both), (fold,))
        least_image(GREAT_WEB, True)
        everything = [(size, all_to_all(size)) for size in range(13)]
        for size, image, many in ((12, 2, 4094), (7, 3, 1806), (6, 4, 1560), (5, 5, 120)):
            self.assertEqual(len(all_folds(everything[size], everything[image], True)), many)

    def test_pictures_and_closures(self):
        order = (45, tuple((0, start, end) for start in range(45) for end in range(start + 1, 45)))
        loops = (200, tuple((0, world, world) for world in range(200)))
        wide = (31, all_to_all(31))
        self.assertIs(goes_through(order), True)
        self.assertEqual((root_of(order), part_from(order, 40)[0]), (0, 5))
        self.assertIs(in_closure((order, wide) * 6, (200, ())), True)
        self.assertIs(in_closure((wide,) * 12, loops), True)
        self.assertIs(in_closure((loops,) * 12, order), False)
        with self.assertRaises(TooGreat):
            telling((loops,) * 12, wide)
        self.assertIs(is_pictured((12, all_to_all(12)), 11, (2, all_to_all(2))), True)
        fives = beside(tuple((5, tuple((0, 0, world) for world in range(1 + step % 5, 5))) for step in range(40)))
        self.assertIs(in_closure((fives,) * 12, fives), True)

    def test_closings(self):
        line = (200, tuple((0, world, world + 1) for world in range(199)) + ((1, 0, 0),))
        wide = (31, all_to_all(31))
        # A loop goes along the line, a world in each round.
        spread = ((((0, 0), *[(0, 1)] * 6), (NO, ("some", 1, ("here", 1)), *[NO] * 6)),) * 60
        closed = closed_web(line, spread)
        self.assertEqual(len(closed[1]), 399)
        paper = closing_paper(line, spread)
        self.assertEqual(len(paper), 199)
        self.assertIs(is_closing_paper(line, spread, closed, paper), True)
        far = tuple((place, 0) for place in range(7))
        clauses = tuple((far, (("some", way, ("here", 7)), *[NO] * 7)) for way in range(-3, 3)) * 10
        self.assertEqual(len(added(wide, clauses)), 2 * 961)
        self.assertIs(is_closed(wide, clauses[2::6] + clauses[3::6]), True)
        self.assertEqual(closed_web(wide, clauses[2::6]), wide)
        with self.assertRaises(TooGreat):
            closed_web(wide, clauses)
        for web in (GREAT_WEB, FULL_WEB):
            added(web, clauses)
            is_closed(web, clauses)

    def test_they_are_the_greatest(self):
        self.assertEqual((words_in(tall()), deep_in(tall())), (400, 40))
        self.assertEqual((words_in(wide(400)), words_in(bush(400)), deep_in(chain(40))), (400, 400, 40))


if __name__ == "__main__":
    unittest.main()
