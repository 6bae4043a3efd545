"""Point 37: closures, and what tells a web outside."""

import random
import unittest

from anymarks.closures import in_closure, telling
from anymarks.errors import BadParameter, BadWeb, MarkError, TooGreat
from anymarks.folds import all_folds, is_fold
from anymarks.kept import is_kept
from anymarks.parts import beside, closed_from, part_of
from anymarks.pictures import part_from, picture
from anymarks.there import kept_worlds
from tests.helpers import LINE, P, Refusals, Touchy, no_tuples, plain_letters
from tests.test_parts import web_wrong
from tests.test_pictures import ENDS, LOOP, ONE, plain_folds, plain_part, plain_picture, through_by, through_webs

FULL = (2, ((0, 0, 0), (0, 0, 1), (0, 1, 0), (0, 1, 1)))
STEP = (2, ((0, 0, 1),))


def cluster(size):
    return (size, tuple((0, start, end) for start in range(size) for end in range(size)))


def plainly_outside(webs, web):
    """The part from the least world onto whose part no part of the list folds, None without one; "great" beyond."""
    listed = [plain_part(one, world) for one in webs for world in range(one[0])]
    own = [plain_part(web, world) for world in range(web[0])]
    if any(part[0] >= image[0] and image[0] ** part[0] > 5000 for part in listed for image in own):
        return "great"
    for image in own:
        if not any(part[0] >= image[0] and plain_folds(part, image, False) for part in listed):
            return image
    return None


class TestInClosure(Refusals, unittest.TestCase):
    def test_the_example(self):
        self.assertIs(in_closure((FULL,), LOOP), True)
        self.assertIs(in_closure((FULL,), ENDS), False)
        self.assertEqual(telling((FULL,), ENDS), picture(ENDS))
        self.assertIs(in_closure(web=LOOP, webs=(FULL,)), True)
        self.assertEqual(telling(web=ENDS, webs=(FULL,)), picture(ENDS))

    def test_examples(self):
        for webs, web, told in (
                ((ONE,), ONE, True), ((ONE,), (200, ()), True), ((ONE,), LOOP, False), ((LOOP,), ONE, False),
                ((ONE, LOOP), beside((LOOP, ONE, LOOP)), True), ((STEP,), ONE, True), ((STEP,), (3, ((0, 0, 2), (0, 1, 2))), True),
                ((ENDS,), LOOP, True), ((LOOP,), ENDS, False), ((ENDS,), ENDS, True), ((ENDS, STEP), FULL, False),
                ((STEP,), LOOP, False), ((cluster(5),), cluster(4), True), ((cluster(4),), cluster(5), False),
                ((cluster(5), ONE), beside((cluster(5), cluster(2), ONE)), True)):
            self.assertIs(in_closure(webs, web), told, (webs, web))
            if told:
                self.no_row(telling, webs, web)

    def test_as_the_document_tells(self):
        chance = random.Random(231)
        webs = [web for web in through_webs() if web[0] <= 4]
        found = {}
        for _ in range(400):
            listed = tuple(chance.choice(webs) for _ in range(chance.randint(1, 3)))
            web = chance.choice(webs)
            if chance.random() < 0.5:
                web = self.in_it(chance, listed)
            told = plainly_outside(listed, web)
            found[told is None] = found.get(told is None, 0) + 1
            self.assertNotEqual(told, "great")
            self.assertIs(in_closure(listed, web), told is None, (listed, web))
            if told is None:
                self.no_row(telling, listed, web)
            else:
                saying = telling(listed, web)
                self.plain(saying)
                self.assertEqual(saying, plain_picture(told))
        self.assertGreater(min(found.values()), 100)

    def in_it(self, chance, webs):
        """A web of the closure: by parts, webs side by side, and folds, again and again."""
        found = list(webs)
        for _ in range(4):
            web = chance.choice(found)
            part = part_of(web, closed_from(web, (chance.randrange(web[0]),), False))
            other = chance.choice(found)
            if part[0] + other[0] <= 5:
                found.append(beside((part, other)))
            found.append(part)
            for image in (LOOP, ONE, STEP, ENDS, FULL):
                folds = all_folds(part, image, False)
                if folds:
                    self.assertIs(is_fold(part, image, False, folds[0]), True)
                    found.append(image)
        return chance.choice(found)

    def test_the_closure_of_its_own(self):
        """Whatever comes by the three deeds is in it."""
        chance = random.Random(232)
        webs = [web for web in through_webs() if web[0] <= 4]
        for _ in range(200):
            listed = tuple(chance.choice(webs) for _ in range(2))
            self.assertIs(in_closure(listed, self.in_it(chance, listed)), True)


class TestTelling(Refusals, unittest.TestCase):
    def test_kept_inside_and_failing_outside(self):
        """[37] with [16] and [25]: kept at every world of the webs and of the closure, failing outside."""
        chance = random.Random(233)
        webs = [web for web in through_webs() if web[0] <= 3]
        checked = 0
        while checked < 150:
            listed = tuple(chance.choice(webs) for _ in range(2))
            web = chance.choice(webs)
            told = plainly_outside(listed, web)
            if told is None:
                continue
            saying = telling(listed, web)
            many = len(plain_letters(saying))
            world = next(world for world in range(web[0]) if plain_part(web, world) == told)
            if many * max(one[0] for one in (*listed, web)) > 9:
                continue
            checked += 1
            self.assertIs(is_kept(web, saying, world), False)
            for one in (*listed, *[part_from(one, 0) for one in listed]):
                for inside in range(one[0]):
                    self.assertIs(is_kept(one, saying, inside), True)

    def test_the_least_world(self):
        web = beside((LOOP, STEP, ENDS))
        for webs, part in (
                ((ONE,), LOOP), ((LOOP,), STEP), ((LOOP, STEP), ENDS), ((ENDS, ONE), STEP), ((ONE, LOOP), STEP)):
            self.assertEqual(telling(webs, web), plain_picture(part))
        # Not the least number of worlds, but the least world.
        self.assertEqual(telling((ONE,), (2, ((0, 0, 1), (0, 1, 1)))), plain_picture(ENDS))

    def test_more_than_four_worlds(self):
        fan = (5, tuple((0, 0, world) for world in range(1, 5)))
        self.assertEqual(telling((LOOP,), (4, tuple((0, 0, world) for world in range(1, 4)))),
                         plain_picture((4, tuple((0, 0, world) for world in range(1, 4)))))
        self.refused(TooGreat, "most", 4, telling, (LOOP,), fan)
        self.assertIs(in_closure((LOOP,), fan), False)
        self.refused(TooGreat, "most", 4, telling, (LOOP,), cluster(31))
        self.no_row(telling, (cluster(5),), cluster(5))
        # A later part is not told where an earlier one is.
        self.assertEqual(telling((LOOP,), beside((STEP, fan))), plain_picture(STEP))
        self.refused(TooGreat, "most", 4, telling, (LOOP,), beside((fan, STEP)))


class TestBounds(Refusals, unittest.TestCase):
    def test_five_thousand_maps(self):
        for size, image, fits in ((12, 2, True), (13, 2, False), (7, 3, True), (8, 3, False), (6, 4, True), (7, 4, False),
                                  (5, 5, True), (6, 5, False), (31, 1, True), (6, 6, False), (4, 31, True), (5, 31, True)):
            for function in (in_closure, telling):
                if not fits:
                    self.refused(TooGreat, "most", 5000, function, (LOOP, cluster(size)), cluster(image))
                elif image <= size and function is in_closure:
                    self.assertIs(in_closure((LOOP, cluster(size)), cluster(image)), True)
                elif image > size:
                    # Parts with fewer worlds do not count.
                    self.assertIs(in_closure((LOOP, cluster(size)), cluster(image)), False)

    def test_parts_count_alone(self):
        great = (200, tuple((0, world, world + 1) for world in range(0, 200, 2)))
        self.assertIs(in_closure((great,), great), True)
        self.assertIs(in_closure((great,), (200, ())), True)
        # Two worlds with a part of thirteen: ahead of work, wherever it stands.
        fan = (13, tuple((0, 0, world) for world in range(1, 13)))
        self.assertIs(in_closure((fan,), (200, ())), True)
        self.refused(TooGreat, "most", 5000, in_closure, (LOOP, fan), (3, ((0, 1, 2),)))
        self.refused(TooGreat, "most", 5000, telling, (fan, LOOP), beside((LOOP, STEP)))
        self.refused(TooGreat, "most", 5000, telling, (fan,), beside((cluster(13), STEP)))

    def test_lists(self):
        self.assertIs(in_closure((LOOP,) * 12, LOOP), True)
        self.assertIs(in_closure((ONE,) * 11 + (LOOP,), LOOP), True)
        for function in (in_closure, telling):
            for value in [*[value for value in no_tuples() if type(value) is not tuple], (), (LOOP,) * 13, [LOOP], {LOOP: 1}]:
                self.refused(BadParameter, "value", value, function, value, Touchy())
            self.refused(BadWeb, "value", 5, function, (5,) * 12, Touchy())

    def test_which_refusal_comes_first(self):
        bad = (2, ((1, 0, 1),))
        for function in (in_closure, telling):
            for value in web_wrong():
                self.refused(BadWeb, "value", value, function, (value, LINE), Touchy())
                self.refused(BadWeb, "value", value, function, (LOOP, value, LINE), Touchy())
                self.refused(BadParameter, "value", LINE, function, (LOOP, LINE, value), value)
                self.refused(BadWeb, "value", value, function, (LOOP,), value)
            for web in (LINE, bad):
                self.refused(BadParameter, "value", web, function, (web, 5), 5)
                self.refused(BadParameter, "value", web, function, (LOOP, ONE, web), 5)
                self.refused(BadParameter, "value", web, function, (cluster(31),), web)
            self.refused(TooGreat, "most", 5000, function, (cluster(31),), cluster(31))
        self.refused(TooGreat, "most", 5000, telling, (cluster(31), LOOP), (3, ((0, 1, 2),)))

    def test_great_lists(self):
        chance = random.Random(234)
        webs = []
        for _ in range(13):
            web = ONE
            while web[0] < 190:
                web = beside((web, through_by(chance, chance.randint(1, 5), chance.randint(0, 8))))
            webs.append((web[0], web[1]))
        for web in (webs[-1], beside((webs[0], ONE)), (200, ())):
            try:
                self.assertEqual(telling(tuple(webs[:-1]), web)[0], "not")
                self.assertIs(in_closure(tuple(webs[:-1]), web), False)
            except MarkError:
                self.assertIn(in_closure(tuple(webs[:-1]), web), (True, False))

    def test_sayings_of_others(self):
        """A saying without ways back that is kept in the list is kept in the closure: each 0 p gives p, say."""
        saying = ("gives", ("each", 0, P), P)
        self.assertEqual(kept_worlds(FULL, saying), (0, 1))
        for web in through_webs():
            if in_closure((FULL,), web):
                self.assertEqual(kept_worlds(web, saying), tuple(range(web[0])))


if __name__ == "__main__":
    unittest.main()
