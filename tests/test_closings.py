"""Point 38: closing forms, the arrows that they want, and closed webs."""

import itertools
import random
import unittest

from anymarks.back import saying_of
from anymarks.closings import added, closed_web, closing_paper, is_closed, is_closing
from anymarks.errors import BadForm, BadParameter, BadWeb, TooGreat
from anymarks.failing import failing, is_failing
from anymarks.formdeeds import both_forms
from anymarks.forms import breaks, form_worlds, rows_at
from anymarks.there import form_of, kept_worlds
from anymarks.webs import need_web
from tests.helpers import (
    GREAT_WEB, LINE, NO, P, WAYS, YES, Refusals, Touchy, form_by, no_tuples, plain_world_rows, tree_by, web_by,
    wide_fact,
)
from tests.test_parts import web_wrong

HERE = [("here", place) for place in range(8)]
THROUGH = ((((0, 0), (1, 0)), (("some", 0, HERE[2]), NO, NO)),)
EACH_ITSELF = (((), (("some", 0, HERE[0]),)),)
BOTH_WAYS = ((((0, 0),), (NO, ("some", 0, HERE[0]))),)
SPREAD = ((((0, 1), (0, 0)), (NO, NO, ("some", 1, HERE[2]))),)
EMPTY = ((), (NO,))


def asked(way, start, end, tree=()):
    """A clause that asks for an arrow from x_start to x_end by the way."""
    return (tree, tuple(("some", way, ("here", end)) if place == start else NO for place in range(len(tree) + 1)))


def closing_by(chance, clauses=3, branches=3):
    form = []
    for _ in range(chance.randint(1, clauses)):
        tree = tree_by(chance, chance.randint(0, branches))
        many = len(tree) + 1
        form.append(asked(chance.choice(WAYS), chance.randrange(many), chance.randrange(many), tree))
    return tuple(form)


def plain_asked(clause):
    """(W, I, K) as point 38 tells it, None of a clause that asks for no arrow."""
    others = [(place, fact) for place, fact in enumerate(clause[1]) if fact != NO]
    if len(others) != 1 or others[0][1][0] != "some" or others[0][1][2][0] != "here":
        return None
    return others[0][1][1], others[0][0], others[0][1][2][1]


def plain_arrow(clause, row):
    way, start, end = plain_asked(clause)
    return (way, row[start], row[end]) if way >= 0 else (-1 - way, row[end], row[start])


def plain_wanted(web, form):
    """{arrow: (clause, row)} of the wanted arrows that are not there, by the first clause and its least row."""
    found = {}
    for number, clause in enumerate(form):
        rows = sorted(row for world in range(web[0]) for row in plain_world_rows(web, clause[0], world))
        for row in rows:
            arrow = plain_arrow(clause, row)
            if arrow not in web[1]:
                found.setdefault(arrow, (number, row))
    return found


def plainly_closed(web, form):
    """(WEB, PAPER) round by round."""
    paper = []
    while wanted := plain_wanted(web, form):
        paper.extend(wanted[arrow] for arrow in sorted(wanted))
        web = (web[0], tuple(sorted([*web[1], *wanted])))
    return web, tuple(paper)


class TestIsClosing(Refusals, unittest.TestCase):
    def test_clauses(self):
        tree = ((0, 0),)
        for clause, told in (
                (THROUGH[0], True), (EACH_ITSELF[0], True), (SPREAD[0], True), (EMPTY, False), ((tree, (NO, NO)), False),
                ((tree, (("some", 0, HERE[1]), ("some", 0, HERE[0]))), False), ((tree, (("some", 0, HERE[1]), YES)), False),
                ((tree, (("each", 0, HERE[1]), NO)), False), ((tree, (HERE[1], NO)), False), ((tree, (YES, NO)), False),
                ((tree, (("some", 0, ("some", 0, HERE[1])), NO)), False), ((tree, (("some", 0, YES), NO)), False),
                ((tree, (("some", 0, NO), NO)), False), ((tree, (("or", NO, ("some", 0, HERE[0])), NO)), False),
                ((tree, (("some", 0, HERE[1]), ("or", NO, NO))), False), ((tree, (NO, ("some", -3, HERE[1]))), True)):
            self.assertIs(is_closing((clause,)), told, clause)
            self.assertIs(is_closing(form=(THROUGH[0], clause)), told)
            self.assertIs(is_closing((clause, EACH_ITSELF[0])), told)

    def test_one_world_and_eight(self):
        line = tuple((place, 0) for place in range(7))
        for start, end, way in itertools.product(range(8), range(8), WAYS):
            self.assertIs(is_closing((asked(way, start, end, line),)), True)
        for way in WAYS:
            self.assertIs(is_closing((asked(way, 0, 0),)), True)

    def test_many_forms(self):
        chance = random.Random(241)
        for turn in range(400):
            form = closing_by(chance) if turn % 2 else form_by(chance)
            told = all(plain_asked(clause) for clause in form)
            self.assertIs(is_closing(form), told)
            if turn % 2:
                self.assertIs(told, True)

    def test_forms_read_off(self):
        """Closing forms come of sayings in shape: "each 0 p gives each 0 each 0 p" is that arrows go through."""
        through = ("gives", ("each", 0, P), ("each", 0, ("each", 0, P)))
        self.assertEqual(form_of(through), (((), (("each", 0, ("each", 0, ("some", -1, HERE[0]))),)),))
        self.assertIs(is_closing(form_of(through)), False)
        met = ("not", ("and", ("each", 0, P), ("some", 0, ("some", 0, ("not", P)))))
        self.assertIs(is_closing(form_of(("gives", ("each", 0, P), P))), True)
        self.assertEqual(kept_worlds(closed_web(LINE, THROUGH), met), (0, 1, 2))


class TestAdded(Refusals, unittest.TestCase):
    def test_examples(self):
        self.assertEqual(added(LINE, THROUGH), ((0, 0, 2),))
        self.assertEqual(added(form=EACH_ITSELF, web=LINE), ((0, 0, 0), (0, 1, 1), (0, 2, 2)))
        self.assertEqual(added(LINE, BOTH_WAYS), ((0, 1, 0), (0, 2, 1)))
        self.assertEqual(added((3, ((0, 0, 1), (1, 0, 0))), SPREAD), ((1, 1, 1),))
        self.assertEqual(added((1, ()), THROUGH), ())

    def test_ways_along_and_back(self):
        web = (3, ((0, 0, 1), (2, 1, 2)))
        for way, told in ((0, ((0, 0, 2),)), (1, ((1, 0, 2),)), (2, ((2, 0, 2),)),
                          (-1, ((0, 2, 0),)), (-2, ((1, 2, 0),)), (-3, ((2, 2, 0),))):
            self.assertEqual(added(web, (asked(way, 0, 2, ((0, 0), (1, 2))),)), told)
            self.assertEqual(added(web, (asked(-1 - way, 2, 0, ((0, 0), (1, 2))),)), told)
            # The same from the other end of the row.
            self.assertEqual(added(web, (asked(way, 2, 0, ((0, -3), (1, -1))),)), told)

    def test_as_the_document_tells(self):
        chance = random.Random(242)
        many = 0
        for _ in range(500):
            web, form = web_by(chance, chance.randint(1, 5), chance.randint(0, 9)), closing_by(chance, 3, 4)
            wanted = plain_wanted(web, form)
            many += len(wanted)
            told = added(web, form)
            self.plain(told)
            self.assertEqual(told, tuple(sorted(wanted)), (web, form))
            self.assertIs(is_closed(web, form), not wanted)
            self.assertIs(is_closed(web, form), form_worlds(web, form) == tuple(range(web[0])))
        self.assertGreater(many, 600)

    def test_branches_beside(self):
        """A row needs all its worlds, also those that the arrow is not about."""
        form = (asked(1, 1, 0, ((0, 0), (0, 2), (2, 2))),)
        for arrows, told in (
                (((0, 0, 1),), ()), (((0, 0, 1), (2, 0, 1)), ()), (((0, 0, 1), (2, 0, 1), (2, 1, 0)), ((1, 1, 0),)),
                (((0, 0, 1), (2, 0, 0)), ((1, 1, 0),))):
            self.assertEqual(added((2, arrows), form), told)

    def test_very_many_rows(self):
        """Where walking through is refused, counting what is wanted is not."""
        full = (31, tuple((0, start, end) for start in range(31) for end in range(31)))
        line = tuple((place, 0) for place in range(7))
        form = (asked(1, 7, 0, line),)
        self.assertEqual(rows_at(full, form[0], 0), 31 ** 7)
        self.refused(TooGreat, "most", 5000, form_worlds, full, form)
        self.assertEqual(added(full, form), tuple((1, start, end) for start in range(31) for end in range(31)))
        self.assertIs(is_closed(full, form), False)
        self.assertIs(is_closed(full, (asked(0, 7, 0, line),)), True)
        self.refused(TooGreat, "most", 1000, closed_web, full, form)
        self.refused(TooGreat, "most", 1000, closing_paper, full, form)
        self.assertEqual(closed_web(full, (asked(0, 7, 0, line),)), full)
        star = tuple((0, way) for way in (0, -1, 0, -1, 0, -1, 0))
        self.assertEqual(len(added(full, (asked(2, 1, 7, star), asked(-2, 3, 3, star)))), 961 + 31)

    def test_very_many_arrows(self):
        fan = (200, tuple((0, 0, world) for world in range(200)))
        form = (asked(1, 1, 2, ((0, 0), (0, 0))), asked(2, 2, 1, ((0, 0), (0, 0))))
        self.assertEqual(len(added(fan, form)), 80000)
        self.assertEqual(added(fan, form), tuple(
            (kind, start, end) for kind in (1, 2) for start in range(200) for end in range(200)))


class TestClosedWeb(Refusals, unittest.TestCase):
    def test_the_examples(self):
        self.assertEqual(closed_web(LINE, THROUGH), (3, ((0, 0, 1), (0, 0, 2), (0, 1, 2))))
        self.assertEqual(closed_web(form=EACH_ITSELF, web=LINE)[1], ((0, 0, 0), (0, 0, 1), (0, 1, 1), (0, 1, 2), (0, 2, 2)))
        self.assertIs(is_closed(form=THROUGH, web=LINE), False)
        self.assertIs(is_closed(closed_web(LINE, THROUGH), THROUGH), True)

    def test_closed_already(self):
        chance = random.Random(243)
        for _ in range(100):
            web, form = web_by(chance, chance.randint(1, 5), 6), closing_by(chance)
            closed, _ = plainly_closed(web, form)
            self.assertEqual(closed_web(closed, form), closed)
            self.assertEqual(closing_paper(closed, form), ())
            self.assertEqual(added(closed, form), ())

    def test_several_rounds(self):
        line = (200, tuple((0, world, world + 1) for world in range(199)) + ((1, 0, 0),))
        form = (asked(1, 1, 1, ((0, -1), (1, 1))),)
        closed = closed_web(line, form)
        self.assertEqual(closed, line)
        # A loop goes on along the line, one world each round.
        form = (asked(1, 1, 1, ((0, 0), (0, 1))),)
        told = closed_web(line, form)
        self.assertEqual(told[1][199:], tuple((1, world, world) for world in range(200)))

    def test_as_the_document_tells(self):
        chance = random.Random(244)
        rounds = []
        for _ in range(300):
            web, form = web_by(chance, chance.randint(1, 5), chance.randint(1, 7)), closing_by(chance, 3, 3)
            told, paper = plainly_closed(web, form)
            found = closed_web(web, form)
            self.plain(found)
            self.assertIs(need_web(found), found)
            self.assertEqual(found, told, (web, form))
            self.assertEqual(len(paper), len(told[1]) - len(web[1]))
            self.assertIs(is_closed(found, form), True)
            rounds.append(len(paper))
        self.assertGreater(sum(rounds), 500)

    def test_the_least_one(self):
        """Of all webs with the same worlds that have these arrows and at which the form holds everywhere."""
        chance = random.Random(245)
        places = [(0, start, end) for start in range(2) for end in range(2)] + [(1, 0, 0), (1, 1, 1)]
        for _ in range(60):
            form = closing_by(chance, 2, 2)
            web = (2, tuple(place for place in places if chance.random() < 0.3))
            closed = closed_web(web, form)
            found = 0
            for chosen in itertools.product((False, True), repeat=len(places)):
                more = {place for place, there in zip(places, chosen) if there} | set(web[1])
                other = (2, tuple(sorted(more)))
                if form_worlds(other, form) == (0, 1):
                    found += 1
                    self.assertTrue(set(closed[1]) <= set(other[1]))
            if set(closed[1]) <= set(places):
                self.assertGreater(found, 0)

    def test_in_any_order_of_adding(self):
        chance = random.Random(246)
        for _ in range(80):
            start, form = web_by(chance, chance.randint(1, 4), 4), closing_by(chance, 3, 2)
            web = start
            while wanted := added(web, form):
                some = chance.sample(wanted, chance.randint(1, min(2, len(wanted))))
                web = (web[0], tuple(sorted([*web[1], *some])))
            self.assertEqual(web, closed_web(start, form))

    def test_two_forms_together(self):
        chance = random.Random(247)
        for _ in range(80):
            start = web_by(chance, chance.randint(1, 4), 5)
            first, second = closing_by(chance, 2, 2), closing_by(chance, 2, 2)
            web = start
            while not (is_closed(web, first) and is_closed(web, second)):
                web = closed_web(closed_web(web, first), second)
            self.assertEqual(closed_web(start, both_forms(first, second)), web)
            self.assertEqual(closed_web(start, both_forms(second, first)), web)

    def test_a_thousand_arrows(self):
        # 500 arrows of the kind 0 have as many of the kind 1 to go with them.
        arrows = tuple((0, start, start + step) for start in range(100) for step in range(5))
        form = (asked(1, 0, 1, ((0, 0),)),)
        web = (200, arrows)
        self.assertEqual(len(closed_web(web, form)[1]), 1000)
        self.assertEqual(len(closing_paper(web, form)), 500)
        more = (200, tuple(sorted([*arrows, (2, 0, 0)])))
        for function in (closed_web, closing_paper):
            self.refused(TooGreat, "most", 1000, function, more, form)
        # As soon as a round has too many, whatever comes then.
        self.refused(TooGreat, "most", 1000, closed_web, (45, tuple((0, world, world + 1) for world in range(44))),
                     (*THROUGH, *EACH_ITSELF))
        self.assertEqual(len(closed_web((45, tuple((0, world, world + 1) for world in range(44))), THROUGH)[1]), 990)
        self.refused(TooGreat, "most", 1000, closed_web, (46, tuple((0, world, world + 1) for world in range(45))), THROUGH)
        self.assertEqual(closed_web(GREAT_WEB, (asked(0, 0, 1, ((0, 0),)),)), GREAT_WEB)


class TestTogether(unittest.TestCase):
    """[38] with [25]: what a closing form's saying tells in a web and in the closed one."""

    def test_its_saying_is_kept_where_the_web_is_closed(self):
        chance = random.Random(248)
        found = {True: 0, False: 0}
        for _ in range(200):
            web, form = web_by(chance, chance.randint(1, 4), chance.randint(1, 6)), closing_by(chance, 2, 3)
            saying = saying_of(form)
            everywhere = tuple(range(web[0]))
            closed = is_closed(web, form)
            found[closed] += 1
            self.assertIs(kept_worlds(web, saying) == everywhere, closed)
            self.assertEqual(kept_worlds(closed_web(web, form), saying), everywhere)
            for world in everywhere:
                if world not in kept_worlds(web, saying):
                    # The row by which the saying fails is one that wants an arrow.
                    clause, worlds, marking = failing(web, saying, world)
                    self.assertIn(plain_arrow(form[clause], worlds), added(web, form))
                    self.assertIs(is_failing(web, saying, world, marking), True)
                    self.assertEqual(breaks(web, form, world), (clause, worlds))
        self.assertGreater(min(found.values()), 30)


class TestRefusals(Refusals, unittest.TestCase):
    def test_webs_come_first(self):
        for function in (added, is_closed, closed_web, closing_paper):
            for value in web_wrong():
                self.refused(BadWeb, "value", value, function, value, Touchy())

    def test_forms(self):
        not_closing = (EMPTY,)
        for function, more in (
                (is_closing, ()), (added, (LINE,)), (is_closed, (LINE,)), (closed_web, (LINE,)), (closing_paper, (LINE,))):
            for value in no_tuples():
                place = () if type(value) is not tuple or not value else (0,)
                self.refused(BadForm, "place", place, function, *more, value)
                self.refused(BadForm, "place", (1, 1, 0), function, *more, (EMPTY, ((), (value,))))
            self.refused(BadForm, "place", (), function, *more, ())
            self.refused(BadForm, "place", (1, 0, 0), function, *more, (EMPTY, (((1, 0),), (NO, NO))))
            self.refused(TooGreat, "most", 2000, function, *more, (EMPTY, ((), (wide_fact(2000),))))
            if more:
                for form in (not_closing, (EACH_ITSELF[0], EMPTY), (EMPTY, EACH_ITSELF[0])):
                    self.refused(BadParameter, "value", form, function, *more, form)


if __name__ == "__main__":
    unittest.main()
