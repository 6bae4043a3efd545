"""Point 5 and 22: where facts and forms hold, rows of worlds, and what breaks a form."""

import random
import unittest

from anymarks.errors import BadFact, BadForm, BadParameter, BadWeb, BadWorld, TooGreat
from anymarks.forms import breaks, fact_worlds, form_holds, form_worlds, rows_at
from tests.helpers import (
    GREAT_WEB, LINE, NO, P, WAYS, YES, OddInteger, OddTuple, Refusals, Touchy, fact_by, form_by, no_numbers,
    no_tuples, plain_world_rows, plainly_breaks, plainly_fact_holds, plainly_led, small_webs, tall_fact, tree_by,
    web_by, wide_fact,
)

HERE = ("here", 0)
TWO_STEPS = ((0, 0), (1, 0))
GOES_ALL_THROUGH = ((TWO_STEPS, (("some", 0, ("here", 2)), NO, NO)),)
ARROW_ON = (((), (("some", 0, YES),)),)
EMPTY = ((), (NO,))
ALL_TO_ALL = (5, tuple((0, start, end) for start in range(5) for end in range(5)))


def fan(many):
    """A web in which the world 0 leads to so many worlds, and these nowhere."""
    return (200, tuple((0, 0, 1 + step) for step in range(many)))


class TestFactWorlds(Refusals, unittest.TestCase):
    def test_each_word(self):
        web = (4, ((0, 0, 1), (0, 0, 2), (0, 2, 2), (1, 1, 0), (2, 3, 1)))
        for fact, worlds in (
                (YES, (0, 1, 2, 3)), (NO, ()), (HERE, (2,)), (("here", 1), (0,)), (("and", HERE, YES), (2,)),
                (("and", HERE, ("here", 1)), ()), (("or", HERE, ("here", 1)), (0, 2)), (("some", 0, HERE), (0, 2)),
                (("each", 0, HERE), (1, 2, 3)), (("some", -1, HERE), (2,)), (("each", -1, HERE), (0, 3)),
                (("some", 1, ("here", 1)), (1,)), (("some", -2, ("here", 2)), (0,)), (("some", -3, YES), (1,)),
                (("each", 2, NO), (0, 1, 2)), (("some", -1, ("some", -1, ("here", 1))), (2,))):
            with self.subTest(fact):
                self.assertEqual(fact_worlds(web, fact, (2, 0, 1)), worlds)
                self.assertEqual(fact_worlds(worlds=(2, 0, 1), fact=fact, web=web), worlds)

    def test_one_world_and_eight_perhaps_equal(self):
        self.assertEqual(fact_worlds(LINE, HERE, (2,)), (2,))
        for worlds in ((0, 1, 2, 0, 1, 2, 0, 1), (2,) * 8, (1, 1), (2, 1, 1)):
            for place, world in enumerate(worlds):
                self.assertEqual(fact_worlds(LINE, ("here", place), worlds), (world,))

    def test_as_the_document_tells(self):
        chance = random.Random(61)
        for web in small_webs():
            for _ in range(12):
                many = chance.randint(1, 8)
                worlds = tuple(chance.randrange(web[0]) for _ in range(many))
                fact = fact_by(chance, chance.randint(1, 5), many)
                found = fact_worlds(web, fact, worlds)
                self.plain(found)
                told = [world for world in range(web[0]) if plainly_fact_holds(web, fact, worlds, world)]
                self.assertEqual(found, tuple(told), (web, fact, worlds))

    def test_parts_replaced_by_greater_ones(self):
        chance = random.Random(62)
        for web in small_webs():
            for _ in range(8):
                worlds = tuple(chance.randrange(web[0]) for _ in range(3))
                fact = fact_by(chance, 4, 3)
                greater = made_greater(chance, fact)
                self.assertLessEqual(
                    set(fact_worlds(web, fact, worlds)), set(fact_worlds(web, greater, worlds)))

    def test_wrong_parameters(self):
        wrong = [*no_tuples(), (), (0,) * 9, [0], (0, 3), (-1,), (0, 1, 7), (0, [1]), "0", OddTuple((0,)), ((0,),)]
        wrong.extend([(0, number) for number in [*no_numbers(), OddInteger(0), 10 ** 5000]])
        for value in wrong:
            for fact in (YES, 5, ("here", 9), None, tall_fact(101), Touchy()):
                self.refused(BadParameter, "value", value, fact_worlds, LINE, fact, value)
        for value in [*no_tuples(), (0, ()), (201, ())]:
            self.refused(BadWeb, "value", value, fact_worlds, value, YES, (0,))
            self.refused(BadWeb, "value", value, fact_worlds, value, 5, 5)
        for value in [*no_tuples(), P, ("here", 1), ("here", -1), ("here", True), ("not", YES)]:
            self.refused(BadFact, "path", (), fact_worlds, LINE, value, (0,))
            self.refused(BadFact, "path", (2,), fact_worlds, LINE, ("some", 0, value), (0,))
        self.refused(BadFact, "path", (), fact_worlds, LINE, ("here", 2), (0, 0))
        self.refused(TooGreat, "most", 100, fact_worlds, LINE, tall_fact(101), (0,))
        self.refused(TooGreat, "most", 2000, fact_worlds, LINE, wide_fact(2001), (0,))

    def test_the_greatest_facts(self):
        self.assertEqual(fact_worlds(LINE, wide_fact(2000), (0,)), (0,))
        for fact in (tall_fact(100), tall_fact(99)):
            told = [world for world in range(3) if plainly_fact_holds(LINE, fact, (1,), world)]
            self.assertEqual(fact_worlds(LINE, fact, (1,)), tuple(told))


def made_greater(chance, fact):
    """A fact with some parts "or" something else."""
    if fact[0] not in ("yes", "no", "here"):
        fact = tuple(made_greater(chance, part) if isinstance(part, tuple) else part for part in fact)
    if chance.random() < 0.3:
        return chance.choice([YES, ("or", fact, fact_by(chance, 2, 3)), ("or", fact_by(chance, 2, 3), fact)])
    return fact


class TestRowsAt(Refusals, unittest.TestCase):
    def test_rows_of_a_line(self):
        for tree, counts in (
                ((), (1, 1, 1)), (((0, 0),), (1, 1, 0)), (TWO_STEPS, (1, 0, 0)), (((0, -1),), (0, 1, 1)),
                (((0, 0), (0, 0)), (1, 1, 0)), (((0, 0), (0, -1)), (0, 1, 0)), (((0, 0), (1, -1)), (1, 1, 0)),
                (((0, 1),), (0, 0, 0))):
            for world, many in enumerate(counts):
                self.assertEqual(rows_at(LINE, (tree, (NO,) * (len(tree) + 1)), world), many)
        self.assertEqual(rows_at(world=0, clause=EMPTY, web=LINE), 1)

    def test_however_many(self):
        tree = tuple((place, 0) for place in range(7))
        self.assertEqual(rows_at(ALL_TO_ALL, (tree, (NO,) * 8), 3), 5 ** 7)
        branched = tuple((0, 0) for _ in range(7))
        self.assertEqual(rows_at(fan(199), (branched, (NO,) * 8), 0), 199 ** 7)
        self.assertEqual(rows_at(fan(199), (branched, (NO,) * 8), 1), 0)
        self.assertEqual(rows_at(fan(199), (((0, 0), (1, -1), (0, 0)), (NO,) * 4), 0), 199 ** 2)

    def test_rows_that_break_off(self):
        self.assertEqual(rows_at(fan(199), (((0, 0),) * 6 + ((6, 0),), (NO,) * 8), 0), 0)
        self.assertEqual(rows_at(fan(199), (((0, 0),) * 6 + ((0, 1),), (NO,) * 8), 0), 0)
        self.assertEqual(rows_at(LINE, (((0, 0), (1, 0), (2, 0)), (NO,) * 4), 0), 0)

    def test_as_the_document_tells(self):
        chance = random.Random(63)
        for web in small_webs():
            for _ in range(6):
                tree = tree_by(chance, chance.randint(0, 5))
                for world in range(web[0]):
                    found = rows_at(web, (tree, (NO,) * (len(tree) + 1)), world)
                    self.plain(found)
                    self.assertEqual(found, len(plain_world_rows(web, tree, world)))

    def test_wrong_parameters(self):
        for value in [*no_tuples(), (0, ()), (201, ())]:
            self.refused(BadWeb, "value", value, rows_at, value, EMPTY, 0)
            self.refused(BadWeb, "value", value, rows_at, value, 5, -1)
        for value in no_tuples():
            for world in (0, 3, None):
                self.refused(BadForm, "place", (0,), rows_at, LINE, value, world)
        for clause, place in (
                ((((1, 0),), (NO, NO)), (0, 0, 0)), (((), (P,)), (0, 1, 0)), ((TWO_STEPS, (NO, NO)), (0,)),
                ((((0, 0), (1, 3)), (NO, NO, 5)), (0, 0, 1)), ((TWO_STEPS, (NO, NO, ("here", 3))), (0, 1, 2))):
            self.refused(BadForm, "place", place, rows_at, LINE, clause, 0)
            self.refused(BadForm, "place", place, rows_at, LINE, clause, -1)
        for fact, most in ((tall_fact(101), 100), (wide_fact(2001), 2000)):
            self.refused(TooGreat, "most", most, rows_at, LINE, ((), (fact,)), -1)
        for value in [-1, 3, 10 ** 5000, OddInteger(0), Touchy(), *no_numbers()]:
            self.refused(BadWorld, "value", value, rows_at, LINE, EMPTY, value)


class TestForms(Refusals, unittest.TestCase):
    def test_the_example(self):
        self.assertEqual(form_worlds(LINE, GOES_ALL_THROUGH), (1, 2))
        self.assertEqual(breaks(LINE, GOES_ALL_THROUGH, 0), (0, (0, 1, 2)))
        self.assertEqual(form_worlds(LINE, ARROW_ON), (0, 1))
        self.assertEqual(form_worlds(LINE, ((((0, 0),), (NO, ("some", 0, YES))),)), (0, 2))
        self.assertEqual([form_holds(LINE, GOES_ALL_THROUGH, world) for world in range(3)], [False, True, True])

    def test_the_examples_of_forms_read_off(self):
        loop = (((), (("some", -1, HERE),)),)
        self.assertEqual(form_worlds((3, ((0, 0, 0), (0, 1, 2))), loop), (0,))
        meet = ((((0, 0),), (("each", 0, ("some", 0, ("some", -1, ("here", 1)))), NO)),)
        self.assertEqual(form_worlds((3, ((0, 0, 1), (0, 0, 2), (0, 1, 1))), meet), (1, 2))
        self.assertEqual(form_worlds((3, ((0, 0, 1), (0, 0, 2), (0, 1, 1), (0, 2, 1))), meet), (0, 1, 2))
        self.assertEqual(form_worlds(LINE, (EMPTY,)), ())

    def test_by_name(self):
        self.assertIs(form_holds(world=0, form=ARROW_ON, web=LINE), True)
        self.assertEqual(form_worlds(form=ARROW_ON, web=LINE), (0, 1))
        self.assertEqual(breaks(world=2, form=ARROW_ON, web=LINE), (0, (2,)))

    def test_no_row_no_break(self):
        form = (((0, 0),), (NO, NO))
        self.assertEqual(form_worlds(LINE, (form,)), (2,))
        self.assertEqual(breaks(LINE, (form,), 1), (0, (1, 2)))
        self.no_row(breaks, LINE, (form,), 2)

    def test_the_first_clause_and_the_least_row(self):
        web = (4, ((0, 0, 1), (0, 0, 2), (0, 0, 3), (1, 1, 1), (1, 2, 2)))
        spread = ((0, 0), (0, 0))
        for facts, row in (
                ((NO, NO, NO), (0, 1, 1)), ((NO, ("here", 2), NO), (0, 1, 2)), ((NO, NO, ("some", 1, YES)), (0, 1, 3)),
                ((NO, ("some", 1, YES), NO), (0, 3, 1)), ((NO, ("some", 1, YES), ("here", 1)), (0, 3, 1)),
                ((("some", 0, ("and", ("here", 1), ("some", 1, YES))), NO, ("some", 1, YES)), (0, 3, 3))):
            clause = (spread, facts)
            self.assertEqual(breaks(web, (clause,), 0), (0, row))
            self.assertEqual(breaks(web, (((), (YES,)), clause, EMPTY), 0), (1, row))
            self.assertEqual(breaks(web, (EMPTY, clause), 0), (0, (0,)))
        self.no_row(breaks, web, ((spread, (NO, NO, YES)),), 0)

    def test_worlds_that_do_not_matter(self):
        # The least row has at such places the least worlds from which it goes on.
        web = (6, ((0, 0, 1), (0, 0, 2), (0, 2, 3), (0, 2, 4), (0, 3, 0), (0, 4, 5), (1, 0, 4), (1, 0, 5)))
        tree = ((0, 0), (1, 0), (2, 0), (0, 1))
        self.assertEqual(breaks(web, ((tree, (NO,) * 5),), 0), (0, (0, 2, 3, 0, 4)))
        self.assertEqual(breaks(web, ((tree, (NO, NO, NO, HERE, NO)),), 0), (0, (0, 2, 4, 5, 4)))
        self.assertEqual(breaks(web, ((tree, (NO, NO, NO, NO, ("some", 0, YES))),), 0), (0, (0, 2, 3, 0, 5)))

    def test_as_the_document_tells(self):
        chance = random.Random(64)
        found = {True: 0, False: 0}
        for turn, web in enumerate(small_webs() * 6):
            form = form_by(chance, 3, 1 + turn % 4, 1 + turn % 4)
            told = [plainly_breaks(web, form, world) for world in range(web[0])]
            holding = form_worlds(web, form)
            self.plain(holding)
            self.assertEqual(holding, tuple(world for world in range(web[0]) if told[world] is None), (web, form))
            for world in range(web[0]):
                self.assertIs(form_holds(web, form, world), told[world] is None)
                found[told[world] is None] += 1
                if told[world] is None:
                    self.no_row(breaks, web, form, world)
                else:
                    self.plain(breaks(web, form, world))
                    self.assertEqual(breaks(web, form, world), told[world], (web, form, world))
        self.assertGreater(min(found.values()), 300)

    def test_clauses_with_one_tree(self):
        chance = random.Random(65)
        for web in small_webs()[::2]:
            tree = tree_by(chance, 3)
            form = tuple(
                (tree, tuple(chance.choice((NO, fact_by(chance, 2, 4))) for _ in range(4))) for _ in range(5))
            for world in range(web[0]):
                told = plainly_breaks(web, form, world)
                if told is None:
                    self.assertIs(form_holds(web, form, world), True)
                else:
                    self.assertEqual(breaks(web, form, world), told)

    def test_alike_in_the_part_closed_both_ways(self):
        chance = random.Random(66)
        for _ in range(150):
            first, second = web_by(chance, 3, 6), web_by(chance, 4, 7)
            moved = tuple((kind, start + 3, end + 3) for kind, start, end in second[1])
            beside = (7, tuple(sorted(first[1] + moved)))
            form = form_by(chance, 2, 3, 3)
            told = form_worlds(first, form) + tuple(world + 3 for world in form_worlds(second, form))
            self.assertEqual(form_worlds(beside, form), told)
            for world in range(3):
                self.assertEqual(closed_both_ways(beside, world) & {3, 4, 5, 6}, set())


def closed_both_ways(web, world):
    found = {world}
    while True:
        more = {there for here in found for way in WAYS for there in plainly_led(web, way, here)}
        if more <= found:
            return found
        found |= more


class TestBounds(Refusals, unittest.TestCase):
    def functions(self, world=0):
        return (
            lambda web, form: form_holds(web, form, world), form_worlds,
            lambda web, form: breaks(web, form, world),
        )

    def test_five_thousand_rows_and_more(self):
        # 100 * 50 rows, and 100 * 50 + 1.
        arrows = [(0, 0, 1 + step) for step in range(100)] + [(1, 0, 101 + step) for step in range(50)]
        web = (200, tuple(arrows))
        tree = ((0, 0), (0, 1))
        self.assertEqual(rows_at(web, (tree, (NO,) * 3), 0), 5000)
        self.assertEqual(breaks(web, ((tree, (NO,) * 3),), 0), (0, (0, 1, 101)))
        last = ((tree, (("or", YES, NO), ("here", 2), ("here", 1))),)
        self.assertIs(form_holds(web, last, 0), True)
        self.assertEqual(form_worlds(web, last), tuple(range(200)))
        self.refuse_all((200, tuple(sorted(arrows + [(1, 0, 0)]))), ((tree, (NO,) * 3),), 0)
        wide = (((0, 0), (0, 0), (0, 0)), (NO,) * 4)
        self.assertEqual(rows_at(fan(17), wide, 0), 4913)
        self.assertEqual(breaks(fan(17), (wide,), 0), (0, (0, 1, 1, 1)))
        self.refuse_all(fan(18), (wide,), 0)

    def test_just_one_more_row(self):
        # 50 * 99 + 50 * 1 rows, and 1 * 1 more.
        arrows = [(0, 0, 1), (0, 0, 2), (0, 0, 3), (2, 2, 5), (2, 3, 5)]
        arrows.extend((1, start, 100 + step) for start in (1, 2) for step in range(50))
        arrows.extend((2, 1, 100 + step) for step in range(99))
        form = ((((0, 0), (1, 1), (1, 2)), (NO,) * 4),)
        web = (200, tuple(sorted(arrows)))
        self.assertEqual(rows_at(web, form[0], 0), 5000)
        self.assertEqual(breaks(web, form, 0), (0, (0, 1, 100, 100)))
        self.assertEqual(form_worlds(web, form), tuple(sorted({*range(200)} - {0})))
        web = (200, tuple(sorted([*arrows, (1, 3, 0)])))
        self.assertEqual(rows_at(web, form[0], 0), 5001)
        self.refuse_all(web, form, 0)

    def refuse_all(self, web, form, world):
        for function in self.functions(world):
            self.refused(TooGreat, "most", 5000, function, web, form)
            # Also where an early clause or row is broken already, or a later one is the great one.
            self.refused(TooGreat, "most", 5000, function, web, (EMPTY, *form))
            self.refused(TooGreat, "most", 5000, function, web, (*form, EMPTY))
            self.refused(TooGreat, "most", 5000, function, web, (((), (YES,)), *form, ((), (YES,))))

    def test_other_worlds(self):
        web, form = fan(18), ((((0, 0), (0, 0), (0, 0)), (NO,) * 4),)
        for world in (1, 17, 199):
            self.assertIs(form_holds(web, form, world), True)
            self.no_row(breaks, web, form, world)
        self.refused(TooGreat, "most", 5000, form_worlds, web, form)
        last = (200, tuple((0, 199, step) for step in range(18)))
        self.refused(TooGreat, "most", 5000, form_worlds, last, form)

    def test_rows_that_break_off(self):
        # Six steps of 199 worlds each, but none goes on to the seventh: there is no row.
        for tree in (((0, 0),) * 6 + ((6, 0),), ((0, 0),) * 6 + ((0, 1),)):
            form = ((tree, (HERE,) * 8),)
            self.assertEqual(form_worlds(fan(199), form), tuple(range(200)))
            self.assertIs(form_holds(fan(199), form, 0), True)
            self.no_row(breaks, fan(199), form, 0)
        web = (200, fan(199)[1] + ((1, 7, 9),))
        form = ((((0, 0), (1, 1), (0, 0)), (NO, NO, NO, ("or", ("here", 1), ("here", 2)))),)
        self.assertEqual(rows_at(web, form[0], 0), 199)
        self.assertEqual(breaks(web, form, 0), (0, (0, 7, 9, 1)))

    def test_work_is_behind_the_parameters(self):
        form = ((((0, 0),) * 7, (NO,) * 8),)
        for value in (-1, 200, True, None):
            for function in (form_holds, breaks):
                self.refused(BadWorld, "value", value, function, fan(100), form, value)
        self.refused(BadForm, "place", (1,), form_worlds, fan(100), (*form, 5))


class TestRefusals(Refusals, unittest.TestCase):
    def test_wrong_webs(self):
        for value in [*no_tuples(), (0, ()), (201, ()), (1, [])]:
            for form in (ARROW_ON, (), 5, [ARROW_ON]):
                self.refused(BadWeb, "value", value, form_worlds, value, form)
                for function in (form_holds, breaks):
                    self.refused(BadWeb, "value", value, function, value, form, -1)

    def test_wrong_forms(self):
        wrong = [((), ()), ([EMPTY], ()), (5, ()), ((EMPTY,) * 61, ()), ((EMPTY, 5), (1,)), (EMPTY, (0,))]
        wrong.extend([((EMPTY, (((0, 3),), (NO, NO))), (1, 0, 0)), ((((), (P,)),), (0, 1, 0)), (Touchy(), ())])
        for form, place in wrong:
            self.refused(BadForm, "place", place, form_worlds, LINE, form)
            for function in (form_holds, breaks):
                for world in (0, 3, None, True):
                    self.refused(BadForm, "place", place, function, LINE, form, world)
        for fact, most in ((tall_fact(101), 100), (wide_fact(2001), 2000)):
            self.refused(TooGreat, "most", most, form_worlds, LINE, (((), (fact,)),))
            for function in (form_holds, breaks):
                self.refused(TooGreat, "most", most, function, LINE, (((), (fact,)),), -1)

    def test_wrong_worlds(self):
        for value in [-1, 3, 10 ** 5000, OddInteger(0), Touchy(), *no_numbers()]:
            for form in (ARROW_ON, (EMPTY,), (((), (YES,)),)):
                for function in (form_holds, breaks):
                    self.refused(BadWorld, "value", value, function, LINE, form, value)

    def test_great_webs(self):
        self.assertEqual(form_worlds(GREAT_WEB, ARROW_ON), tuple(range(200)))
        self.assertEqual(breaks(GREAT_WEB, (EMPTY,), 199), (0, (199,)))


if __name__ == "__main__":
    unittest.main()
