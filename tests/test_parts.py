"""Points 32 and 33: parts that are closed, and webs side by side; what [22] and [34] tell of them."""

import itertools
import random
import unittest

from anymarks.errors import BadParameter, BadWeb, TooGreat
from anymarks.forms import form_worlds
from anymarks.kept import tried
from anymarks.parts import beside, closed_from, part_of
from anymarks.sayings import holding
from anymarks.there import kept_worlds
from anymarks.webs import need_web
from tests.helpers import (
    GREAT_WEB, LINE, WAYS, OddInteger, OddTuple, Refusals, Touchy, all_webs, form_by, marking_by, no_numbers,
    no_tuples, plain_letters, plainly_led, saying_by, shaped_by, small_webs, web_by,
)
from tests.test_there import in_shape_or_great

WEB = (6, ((0, 0, 1), (0, 1, 2), (0, 4, 2), (1, 3, 3), (2, 2, 0)))


def plainly_closed(web, worlds, both):
    ways = WAYS if both else (0, 1, 2)
    return all(there in worlds for world in worlds for way in ways for there in plainly_led(web, way, world))


def least_closed(web, worlds, both):
    """The fewest worlds that are closed, of all that are."""
    found = None
    for many in range(web[0] + 1):
        for chosen in itertools.combinations(range(web[0]), many):
            if set(worlds) <= set(chosen) and plainly_closed(web, chosen, both):
                if found is None:
                    found = chosen
                assert set(found) <= set(chosen)
    return found


def no_boths():
    """Values that are neither True nor False."""
    return [0, 1, None, "True", 1.0, (), (True,), [], Touchy(), OddInteger(1), object(), bool]


def web_wrong():
    return [*no_tuples(), (), (0, ()), (201, ()), (1, ((0, 0, 1),)), (1, []), [1, ()], OddTuple((1, ())), (True, ())]


class TestClosedFrom(Refusals, unittest.TestCase):
    def test_examples(self):
        for worlds, both, told in (
                ((), False, ()), ((), True, ()), ((0,), False, (0, 1, 2)), ((2,), False, (0, 1, 2)), ((3,), False, (3,)),
                ((4,), False, (0, 1, 2, 4)), ((0,), True, (0, 1, 2, 4)), ((5,), True, (5,)), ((5, 3, 5), False, (3, 5)),
                ((4, 3), True, (0, 1, 2, 3, 4)), ((3, 3, 3), True, (3,)), ((5, 4, 3, 2, 1, 0), False, (0, 1, 2, 3, 4, 5))):
            self.assertEqual(closed_from(WEB, worlds, both), told)
            self.assertEqual(closed_from(both=both, worlds=worlds, web=WEB), told)

    def test_the_fewest(self):
        chance = random.Random(201)
        for web in small_webs():
            if web[0] > 5:
                continue
            for both in (True, False):
                worlds = tuple(chance.randrange(web[0]) for _ in range(chance.randint(0, 3)))
                told = closed_from(web, worlds, both)
                self.plain(told)
                self.assertEqual(told, least_closed(web, worlds, both), (web, worlds))

    def test_many_worlds(self):
        self.assertEqual(closed_from(LINE, (2, 1) * 100, False), (1, 2))
        self.assertEqual(closed_from(GREAT_WEB, tuple(range(199, -1, -1)), False), tuple(range(200)))
        worlds = (1,) * 201
        self.refused(BadParameter, "value", worlds, closed_from, LINE, worlds, False)

    def test_refusals(self):
        for value in web_wrong():
            self.refused(BadWeb, "value", value, closed_from, value, Touchy(), Touchy())
        for value in no_tuples():
            self.refused(BadParameter, "value", value, closed_from, LINE, value, 5)
        for item in [*no_numbers(), -1, 3, 10 ** 30]:
            for worlds in ((item,), (0, item), (item, 5)):
                self.refused(BadParameter, "value", worlds, closed_from, LINE, worlds, Touchy())
        for value in ([0], OddTuple((0,)), {0}, "0"):
            self.refused(BadParameter, "value", value, closed_from, LINE, value, True)
        for value in no_boths():
            self.refused(BadParameter, "value", value, closed_from, LINE, (0,), value)
            self.refused(BadParameter, "value", value, closed_from, LINE, (), value)


class TestPartOf(Refusals, unittest.TestCase):
    def test_examples(self):
        for worlds, told in (
                ((0, 1, 2), (3, ((0, 0, 1), (0, 1, 2), (2, 2, 0)))), ((3,), (1, ((1, 0, 0),))), ((5,), (1, ())),
                ((0, 1, 2, 4), (4, ((0, 0, 1), (0, 1, 2), (0, 3, 2), (2, 2, 0)))), ((3, 5), (2, ((1, 0, 0),))),
                ((0, 1, 2, 3, 4, 5), WEB)):
            self.assertEqual(part_of(WEB, worlds), told)
            self.assertEqual(part_of(worlds=worlds, web=WEB), told)

    def test_all_parts_of_small_webs(self):
        for web in small_webs():
            if web[0] > 5:
                continue
            for many in range(1, web[0] + 1):
                for worlds in itertools.combinations(range(web[0]), many):
                    if plainly_closed(web, worlds, False):
                        arrows = [
                            (kind, worlds.index(start), worlds.index(end)) for kind, start, end in web[1]
                            if start in worlds and end in worlds]
                        told = part_of(web, worlds)
                        self.assertEqual(told, (many, tuple(sorted(arrows))))
                        self.assertIs(need_web(told), told)
                    else:
                        self.refused(BadParameter, "value", worlds, part_of, web, worlds)

    def test_refusals(self):
        for value in web_wrong():
            self.refused(BadWeb, "value", value, part_of, value, Touchy())
        for value in [
                *no_tuples(), (), (1, 0, 2), (0, 1, 2, 2), (0, 1, 2, 6), (-1, 0, 1, 2), (0, 1), (1, 2), (3, 4), [0, 1, 2],
                OddTuple((3,)), (False, 1, 2), (0, True, 2), (3.0,), (OddInteger(3),), (Touchy(),), tuple(range(201)), (3, 3)]:
            self.refused(BadParameter, "value", value, part_of, WEB, value)


class TestBeside(Refusals, unittest.TestCase):
    def test_examples(self):
        self.assertEqual(beside((LINE,)), LINE)
        told = (7, ((0, 0, 1), (0, 1, 2), (0, 5, 6), (2, 3, 3)))
        self.assertEqual(beside((LINE, (1, ((2, 0, 0),)), (1, ()), (2, ((0, 0, 1),)))), told)
        self.assertEqual(beside(webs=(LINE, LINE)), (6, ((0, 0, 1), (0, 1, 2), (0, 3, 4), (0, 4, 5))))

    def test_many_small_webs(self):
        chance = random.Random(202)
        for _ in range(100):
            webs = tuple(chance.choice(small_webs()) for _ in range(chance.randint(1, 6)))
            told = beside(webs)
            self.plain(told)
            self.assertIs(need_web(told), told)
            ahead = 0
            for web in webs:
                worlds = tuple(range(ahead, ahead + web[0]))
                self.assertEqual(part_of(told, worlds), web)
                self.assertTrue(plainly_closed(told, worlds, True))
                ahead += web[0]
            self.assertEqual((told[0], len(told[1])), (ahead, sum(len(web[1]) for web in webs)))

    def test_bounds(self):
        one = (1, ())
        self.assertEqual(beside((one,) * 60), (60, ()))
        webs = (one,) * 61
        self.refused(BadParameter, "value", webs, beside, webs)
        for first, second, fits in ((199, 1, True), (100, 100, True), (200, 1, False), (101, 100, False)):
            if fits:
                self.assertEqual(beside(((first, ()), (second, ()))), (200, ()))
            else:
                self.refused(TooGreat, "most", 200, beside, ((first, ()), (second, ())))
        arrows = tuple((0, start, end) for start in range(25) for end in range(20))
        half = (25, arrows)
        self.assertEqual(len(beside((half, half, one))[1]), 1000)
        self.refused(TooGreat, "most", 1000, beside, (half, half, (1, ((0, 0, 0),))))
        self.refused(TooGreat, "most", 1000, beside, (half, half, half))
        self.refused(TooGreat, "most", 200, beside, (half,) * 9)

    def test_refusals(self):
        for value in no_tuples():
            if type(value) is not tuple:
                self.refused(BadParameter, "value", value, beside, value)
        for value in ((), [LINE], OddTuple((LINE,)), {LINE: 0}, (5,) * 61):
            self.refused(BadParameter, "value", value, beside, value)
        for value in web_wrong():
            self.refused(BadWeb, "value", value, beside, (value,))
            self.refused(BadWeb, "value", value, beside, (LINE, value, 5))
            # The first thing that is no web comes ahead of what is too great.
            self.refused(BadWeb, "value", value, beside, (GREAT_WEB, GREAT_WEB, value))
        self.refused(BadWeb, "value", LINE[1], beside, LINE[1:] + LINE[:1])


class TestFacts(unittest.TestCase):
    def test_forms_in_parts_closed_both_ways(self):
        """[22]: a form holds alike at a world of a web and in the part that is closed both ways from there."""
        chance = random.Random(203)
        smaller = 0
        for web in [*small_webs(), *[beside((web_by(chance, 3, 4), web_by(chance, 2, 2))) for _ in range(40)]]:
            form = form_by(chance)
            there = form_worlds(web, form)
            for world in range(web[0]):
                worlds = closed_from(web, (world,), True)
                smaller += len(worlds) < web[0]
                inside = form_worlds(part_of(web, worlds), form)
                self.assertEqual([worlds[number] for number in inside], [one for one in worlds if one in there])
        self.assertGreater(smaller, 150)

    def test_sayings_without_ways_back_in_parts(self):
        """[34], by all markings: what has no ways back is kept alike in parts closed one way, all else both ways."""
        chance = random.Random(204)
        told = {True: 0, False: 0}
        webs = [web for web in all_webs(2, (0,))] + [web_by(chance, 3, 3) for _ in range(40)]
        while min(told.values()) < 150:
            web, both = chance.choice(webs), chance.random() < 0.5
            saying = saying_by(chance, 4, 2)
            saying = saying if both else ways_made(saying, lambda way: way % 3)
            if len(plain_letters(saying)) * web[0] > 8:
                continue
            worlds = closed_from(web, (chance.randrange(web[0]),), both)
            part = part_of(web, worlds)
            there = tried(web, saying)
            self.assertEqual([worlds[one] for one in tried(part, saying)], [one for one in worlds if one in there])
            told[both] += len(worlds) < web[0]
            marking = marking_by(chance, web[0], 2)
            cut = tuple(tuple(worlds.index(one) for one in item if one in worlds) for item in marking)
            held = holding(web, marking, saying)
            self.assertEqual([worlds[one] for one in holding(part, cut, saying)], [one for one in worlds if one in held])

    def test_sayings_side_by_side(self):
        chance = random.Random(205)
        webs = [web for web in small_webs() if web[0] <= 3]
        for _ in range(300):
            first, second = chance.choice(webs), chance.choice(webs)
            web = beside((first, second))
            saying = saying_by(chance, 4, 2)
            if len(plain_letters(saying)) * web[0] <= 9:
                told = [*tried(first, saying), *[first[0] + world for world in tried(second, saying)]]
                self.assertEqual(list(tried(web, saying)), told)
            saying = shaped_by(chance, 4)
            if in_shape_or_great(saying):
                told = [*kept_worlds(first, saying), *[first[0] + world for world in kept_worlds(second, saying)]]
                self.assertEqual(list(kept_worlds(web, saying)), told)


def ways_made(saying, change):
    """A saying with other ways."""
    told = [ways_made(part, change) if isinstance(part, tuple) else part for part in saying]
    if saying[0] in ("each", "some"):
        told[1] = change(told[1])
    return tuple(told)


if __name__ == "__main__":
    unittest.main()
