"""Point 39: papers that close a web."""

import random
import unittest

from anymarks.closings import added, closed_web, closing_paper, is_closing_paper
from anymarks.errors import BadForm, BadParameter, BadWeb
from tests.helpers import (
    LINE, NO, OddInteger, OddTuple, Refusals, Touchy, all_webs, no_numbers, no_tuples, plain_world_rows, web_by,
)
from tests.test_closings import (
    EACH_ITSELF, EMPTY, THROUGH, asked, closing_by, plain_arrow, plain_wanted, plainly_closed,
)
from tests.test_parts import web_wrong

CLOSED = (3, ((0, 0, 1), (0, 0, 2), (0, 1, 2)))
FOUR = (4, ((0, 0, 1), (0, 1, 2), (0, 2, 3)))


def plainly_a_paper(web, form, goal, paper):
    """Whether pairs (CLAUSE, WORLDS) lead from the web to the goal, as point 39 tells it."""
    there = set(web[1])
    for number, worlds in paper:
        tree, _ = form[number]
        now = (web[0], tuple(sorted(there)))
        if worlds not in [row for world in range(web[0]) for row in plain_world_rows(now, tree, world)]:
            return False
        arrow = plain_arrow(form[number], worlds)
        if arrow in there:
            return False
        there.add(arrow)
    return (web[0], tuple(sorted(there))) == goal and not plain_wanted(goal, form)


class TestClosingPaper(Refusals, unittest.TestCase):
    def test_the_example(self):
        self.assertEqual(closing_paper(LINE, THROUGH), ((0, (0, 1, 2)),))
        self.assertEqual(closing_paper(form=THROUGH, web=LINE), ((0, (0, 1, 2)),))
        self.assertIs(is_closing_paper(LINE, THROUGH, CLOSED, ((0, (0, 1, 2)),)), True)
        self.assertIs(is_closing_paper(value=((0, (0, 1, 2)),), goal=CLOSED, form=THROUGH, web=LINE), True)
        self.assertEqual(closing_paper(LINE, EACH_ITSELF), ((0, (0,)), (0, (1,)), (0, (2,))))

    def test_round_by_round(self):
        # First the arrows of two steps, then the one of three, by the least row that wants it.
        self.assertEqual(closing_paper(FOUR, THROUGH), ((0, (0, 1, 2)), (0, (1, 2, 3)), (0, (0, 1, 3))))

    def test_the_first_clause_and_the_least_row(self):
        web = (4, ((0, 0, 2), (0, 0, 3), (0, 2, 1), (0, 3, 1), (1, 0, 0)))
        late = asked(0, 0, 2, ((0, 0), (1, 0)))
        self.assertEqual(closing_paper(web, (late,)), ((0, (0, 2, 1)),))
        self.assertEqual(closing_paper(web, (EACH_ITSELF[0], late))[1], (1, (0, 2, 1)))
        twice = closing_paper(web, (late, late))
        self.assertEqual(twice, ((0, (0, 2, 1)),))
        # Worlds beside those that the arrow is about count, too, from x_0 on.
        beside = asked(1, 0, 0, ((0, 0), (0, 0)))
        self.assertEqual(closing_paper((3, ((0, 0, 1), (0, 0, 2))), (beside,)), ((0, (0, 1, 1)),))
        other = asked(1, 1, 1, ((0, 0), (0, 0)))
        self.assertEqual(closing_paper((3, ((0, 0, 1), (0, 0, 2))), (other,)), ((0, (0, 1, 1)), (0, (0, 2, 1))))
        back = asked(1, 1, 1, ((0, -1),))
        self.assertEqual(closing_paper((3, ((0, 0, 1), (0, 0, 2))), (back,)), ((0, (1, 0)),))

    def test_as_the_document_tells(self):
        chance = random.Random(251)
        many = []
        for _ in range(400):
            web, form = web_by(chance, chance.randint(1, 5), chance.randint(1, 8)), closing_by(chance, 3, 4)
            goal, paper = plainly_closed(web, form)
            told = closing_paper(web, form)
            self.plain(told)
            self.assertEqual(told, paper, (web, form))
            self.assertIs(is_closing_paper(web, form, goal, told), True)
            many.append(len(told))
        self.assertGreater(max(many), 12)


class TestIsClosingPaper(Refusals, unittest.TestCase):
    def test_any_order_that_goes(self):
        chance = random.Random(252)
        found = {True: 0, False: 0}
        for _ in range(400):
            web, form = web_by(chance, chance.randint(1, 4), chance.randint(1, 5)), closing_by(chance, 2, 2)
            goal, paper = plainly_closed(web, form)
            bent = list(paper)
            kind = chance.randrange(5)
            if kind == 0:
                chance.shuffle(bent)
            elif kind == 1 and bent:
                bent.pop(chance.randrange(len(bent)))
            elif kind == 2 and bent:
                bent.append(chance.choice(bent))
            elif kind == 3 and bent:
                number, worlds = bent.pop()
                bent.append((number, tuple(chance.randrange(web[0]) for _ in worlds)))
            else:
                bent = self.some_paper(chance, web, form)
            told = plainly_a_paper(web, form, goal, bent)
            found[told] += 1
            self.assertIs(is_closing_paper(web, form, goal, tuple(bent)), told, (web, form, bent))
        self.assertGreater(min(found.values()), 60)

    def some_paper(self, chance, web, form):
        """One wanted arrow after the other, each by some row."""
        paper = []
        while True:
            steps = [
                (number, row) for number, clause in enumerate(form) for world in range(web[0])
                for row in plain_world_rows(web, clause[0], world) if plain_arrow(clause, row) not in web[1]]
            if not steps:
                return paper
            paper.append(chance.choice(steps))
            arrow = plain_arrow(form[paper[-1][0]], paper[-1][1])
            web = (web[0], tuple(sorted([*web[1], arrow])))

    def test_a_paper_exactly_for_the_closed_web(self):
        chance = random.Random(253)
        for _ in range(30):
            form = closing_by(chance, 2, 2)
            web = chance.choice([*all_webs(2, (0,))])
            closed = closed_web(web, form)
            paper = closing_paper(web, form)
            for goal in [*all_webs(2, (0,)), closed, web, (3, closed[1]), (closed[0], ())]:
                self.assertIs(is_closing_paper(web, form, goal, paper), goal == closed)

    def test_bent_papers(self):
        paper = ((0, (0, 1, 2)), (0, (1, 2, 3)), (0, (0, 1, 3)))
        goal = closed_web(FOUR, THROUGH)
        self.assertIs(is_closing_paper(FOUR, THROUGH, goal, paper), True)
        # The arrow of three steps may come by the other row, and ahead of what it does not need.
        self.assertIs(is_closing_paper(FOUR, THROUGH, goal, ((0, (0, 1, 2)), (0, (0, 2, 3)), (0, (1, 2, 3)))), True)
        for bent in (
                (), paper[:2], paper[1:], paper + paper[:1], (paper[2], *paper[:2]), paper[:2] + ((0, (0, 3, 3)),),
                paper[:2] + ((1, (0, 1, 3)),), paper[:2] + ((-1, (0, 1, 3)),), paper[:2] + ((0, (0, 1)),),
                paper[:2] + ((0, (0, 1, 3, 3)),), paper[:2] + ((0, (0, 1, 4)),), paper[:2] + ((0, (0, 1, -1)),),
                paper[:2] + ((0, [0, 1, 3]),), paper[:2] + ([0, (0, 1, 3)],), paper[:2] + ((False, (0, 1, 3)),),
                paper[:2] + ((0, (False, 1, 3)),), paper[:2] + ((0, (0, True, 3)),), paper[:2] + ((0, (0, 1, 3), 0),),
                paper[:2] + ((0,),), paper[:2] + ((0.0, (0, 1, 3)),), paper[:2] + ((0, OddTuple((0, 1, 3))),),
                paper[:2] + (OddTuple((0, (0, 1, 3))),), paper[:2] + ((OddInteger(0), (0, 1, 3)),),
                paper[:2] + ((0, (0, 1, OddInteger(3))),), OddTuple(paper), list(paper)):
            self.assertIs(is_closing_paper(FOUR, THROUGH, goal, bent), False, str(type(bent)))

    def test_goals(self):
        paper = ((0, (0, 1, 2)),)
        for goal in (LINE, (4, CLOSED[1]), (3, CLOSED[1] + ((1, 0, 0),)), (3, ())):
            self.assertIs(is_closing_paper(LINE, THROUGH, goal, paper), False)
            self.assertIs(is_closing_paper(LINE, THROUGH, goal, ()), False)
        self.assertIs(is_closing_paper(CLOSED, THROUGH, CLOSED, ()), True)
        # The goal is there, but it is not closed.
        self.assertIs(is_closing_paper(LINE, THROUGH, LINE, ()), False)
        self.assertIs(is_closing_paper(FOUR, THROUGH, (4, tuple(sorted([*FOUR[1], (0, 0, 2)]))), paper), False)

    def test_values_of_any_kind(self):
        for value in [*no_tuples(), *no_numbers(), (), ((),), ((0, 0),), ((Touchy(), (0,)),), ((0, (Touchy(),)),), ((0, ([],)),)]:
            self.assertIs(is_closing_paper(LINE, THROUGH, CLOSED, value), False)
            self.assertIs(is_closing_paper(LINE, EACH_ITSELF, LINE, value), False)
            self.assertIs(is_closing_paper(CLOSED, THROUGH, CLOSED, value), type(value) is tuple and not value)

    def test_a_thousand_pairs(self):
        web = (200, ())
        form = (asked(1, 0, 0), asked(2, 0, 0), asked(0, 0, 0))
        paper = closing_paper(web, form)
        goal = closed_web(web, form)
        self.assertEqual(len(paper), 600)
        self.assertIs(is_closing_paper(web, form, goal, paper), True)
        self.assertIs(is_closing_paper(web, form, goal, paper[::-1]), True)
        full = tuple((0, start, end) for start in range(31) for end in range(31))
        whole = (asked(0, 0, 1, ((0, 1), (1, -2))), asked(1, 0, 0))
        self.assertIs(is_closing_paper((31, full), whole, (31, full), paper), False)
        self.assertIs(is_closing_paper(web, form, goal, paper + ((0, (0,)),) * 401), False)


class TestRefusals(Refusals, unittest.TestCase):
    def test_order(self):
        bad, empty = (0, ()), (EMPTY,)
        for value in web_wrong():
            self.refused(BadWeb, "value", value, is_closing_paper, value, (), bad, ())
            # Behind the errors of the form.
            self.refused(BadForm, "place", (), is_closing_paper, LINE, (), value, ())
            self.refused(BadParameter, "value", empty, is_closing_paper, LINE, empty, value, ())
            self.refused(BadWeb, "value", value, is_closing_paper, LINE, THROUGH, value, Touchy())
        for value in no_tuples():
            if type(value) is not tuple or not value:
                self.refused(BadForm, "place", (), is_closing_paper, LINE, value, bad, ())
        self.refused(BadForm, "place", (0, 1, 0), is_closing_paper, LINE, (((), (5,)),), bad, ())
        both = (THROUGH[0], (((0, 0),), (NO, NO)))
        self.refused(BadParameter, "value", both, is_closing_paper, LINE, both, bad, ())

    def test_added_arrows_are_no_paper(self):
        self.assertIs(is_closing_paper(LINE, THROUGH, CLOSED, added(LINE, THROUGH)), False)


if __name__ == "__main__":
    unittest.main()
