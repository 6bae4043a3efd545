"""Points 35 and 36: webs whose arrows go through, and pictures."""

import itertools
import random
import unittest

from anymarks.errors import BadParameter, BadWeb, BadWorld, TooGreat
from anymarks.folds import all_folds
from anymarks.kept import fails_by, is_kept
from anymarks.pictures import goes_through, is_pictured, part_from, picture, root_of
from anymarks.sayings import holds, need_saying
from anymarks.webs import need_web
from tests.helpers import (
    LINE, P, Refusals, Touchy, all_markings, all_webs, no_numbers, no_tuples, plain_words, plainly_led, small_webs,
    to_the_right,
)
from tests.test_folds import plain_folds
from tests.test_parts import web_wrong

LOOP = (1, ((0, 0, 0),))
ONE = (1, ())
ENDS = (2, ((0, 0, 1), (0, 1, 1)))


def plainly_through(web):
    arrows = set(web[1])
    return all(kind == 0 for kind, _, _ in arrows) and all(
        (0, one, three) in arrows for _, one, two in arrows for _, other, three in arrows if other == two)


def through(web):
    """The web of the kind 0 with all arrows that make it go through."""
    arrows = {(start, end) for _, start, end in web[1]}
    while True:
        more = {(one, four) for one, two in arrows for three, four in arrows if two == three} - arrows
        if not more:
            return (web[0], tuple(sorted((0, start, end) for start, end in arrows)))
        arrows |= more


def through_by(chance, size, arrows):
    return through((size, tuple((0, chance.randrange(size), chance.randrange(size)) for _ in range(arrows))))


def through_webs():
    """All that go through with one and two worlds, and many with three, four and five."""
    webs = [web for size in (1, 2, 3) for web in all_webs(size, (0,)) if plainly_through(web)]
    chance = random.Random(221)
    webs.extend(through_by(chance, size, chance.randint(0, size + 2)) for size in (4, 5) for _ in range(25))
    for size in (4, 4, 5):
        for web in [through_by(chance, size, chance.randint(0, size)) for _ in range(5)]:
            webs.append(through((size, web[1] + tuple((0, 0, world) for world in range(1, size)))))
    return webs


def plain_roots(web):
    return [world for world in range(web[0]) if {world, *plainly_led(web, 0, world)} == set(range(web[0]))]


def rooted_webs():
    return [web for web in through_webs() if 0 in plain_roots(web)]


def plain_part(web, world):
    worlds = [world, *[there for there in plainly_led(web, 0, world) if there != world]]
    arrows = sorted((0, worlds.index(start), worlds.index(end)) for _, start, end in web[1] if start in worlds)
    return (len(worlds), tuple(arrows))


def plain_picture(web):
    """As point 36 tells it."""
    size, arrows = web
    p = [("letter", world) for world in range(size)]
    parts = [to_the_right("or", p)]
    parts += [("gives", p[one], ("not", p[two])) for one in range(size) for two in range(one + 1, size)]
    for one in range(size):
        for two in range(size):
            told = ("some", 0, p[two]) if (0, one, two) in arrows else ("each", 0, ("not", p[two]))
            parts.append(("gives", p[one], told))
    x = to_the_right("and", parts)
    return ("not", ("and", p[0], ("and", x, ("each", 0, x))))


class TestGoesThrough(Refusals, unittest.TestCase):
    def test_examples(self):
        for web, told in (
                (ONE, True), (LOOP, True), (LINE, False), ((3, ((0, 0, 1), (0, 0, 2), (0, 1, 2))), True), (ENDS, True),
                ((2, ((0, 0, 1), (0, 1, 0))), False), ((2, ((0, 0, 0), (0, 0, 1), (0, 1, 0), (0, 1, 1))), True),
                ((1, ((1, 0, 0),)), False), ((1, ((2, 0, 0),)), False), ((2, ((0, 0, 1), (1, 0, 1))), False), ((200, ()), True),
                ((3, ((0, 0, 1), (0, 0, 2))), True)):
            self.assertIs(goes_through(web), told, web)
            self.assertIs(goes_through(web=web), told)

    def test_all_small_webs(self):
        found = {True: 0, False: 0}
        for web in [*small_webs(), *all_webs(3, (0,)), *through_webs()]:
            told = plainly_through(web)
            found[told] += 1
            self.assertIs(goes_through(web), told)
        self.assertGreater(min(found.values()), 100)

    def test_refusals(self):
        for value in web_wrong():
            for function, more in (
                    (goes_through, ()), (root_of, ()), (picture, ()), (part_from, (Touchy(),)),
                    (is_pictured, (Touchy(), Touchy()))):
                self.refused(BadWeb, "value", value, function, value, *more)
        for web in (LINE, (1, ((1, 0, 0),)), (2, ((0, 0, 1), (2, 1, 1)))):
            for function, more in (
                    (root_of, ()), (picture, ()), (part_from, (Touchy(),)), (is_pictured, (Touchy(), Touchy()))):
                self.refused(BadParameter, "value", web, function, web, *more)


class TestRoots(Refusals, unittest.TestCase):
    def test_examples(self):
        for web, told in (
                (ONE, 0), (LOOP, 0), (ENDS, 0), ((2, ((0, 1, 0),)), 1), ((2, ((0, 0, 0), (0, 0, 1), (0, 1, 0), (0, 1, 1))), 0),
                ((3, ((0, 1, 0), (0, 1, 1), (0, 1, 2), (0, 2, 0), (0, 2, 1), (0, 2, 2))), 1)):
            self.assertEqual(root_of(web), told)
            self.assertEqual(root_of(web=web), told)
        for web in ((2, ()), (3, ((0, 0, 2), (0, 1, 2))), (2, ((0, 0, 0), (0, 1, 1)))):
            self.no_row(root_of, web)

    def test_all_small_webs(self):
        many = {0: 0, 1: 0, 2: 0}
        for web in through_webs():
            roots = plain_roots(web)
            many[min(2, len(roots))] += 1
            if roots:
                self.assertEqual(root_of(web), roots[0])
            else:
                self.no_row(root_of, web)
        self.assertGreater(min(many.values()), 5)


class TestPartFrom(Refusals, unittest.TestCase):
    def test_examples(self):
        web = (4, ((0, 1, 0), (0, 1, 3), (0, 2, 0), (0, 2, 1), (0, 2, 3), (0, 3, 0)))
        for world, told in (
                (0, ONE), (1, (3, ((0, 0, 1), (0, 0, 2), (0, 2, 1)))), (3, (2, ((0, 0, 1),))),
                (2, (4, ((0, 0, 1), (0, 0, 2), (0, 0, 3), (0, 2, 1), (0, 2, 3), (0, 3, 1))))):
            self.assertEqual(part_from(web, world), told)
            self.assertEqual(part_from(world=world, web=web), told)

    def test_all_small_webs(self):
        for web in through_webs():
            for world in range(web[0]):
                told = part_from(web, world)
                self.plain(told)
                self.assertIs(need_web(told), told)
                self.assertEqual(told, plain_part(web, world))
                self.assertEqual(root_of(told), 0)
                self.assertIs(goes_through(told), True)

    def test_refusals(self):
        for value in [*no_numbers(), -1, 2, 10 ** 30]:
            self.refused(BadWorld, "value", value, part_from, ENDS, value)
            self.refused(BadWorld, "value", value, is_pictured, ENDS, value, Touchy())


class TestPicture(Refusals, unittest.TestCase):
    def test_the_example(self):
        x = ("and", P, ("gives", P, ("some", 0, P)))
        self.assertEqual(picture(LOOP), ("not", ("and", P, ("and", x, ("each", 0, x)))))
        self.assertEqual(picture(web=LOOP), picture(LOOP))
        told = picture(LOOP)
        self.assertIs(is_kept(ENDS, told, 0), False)
        self.assertEqual([is_kept((2, ((0, 0, 1),)), told, world) for world in (0, 1)], [True, True])

    def test_as_the_document_tells(self):
        sizes = []
        for web in rooted_webs():
            if web[0] > 4:
                self.refused(TooGreat, "most", 4, picture, web)
                continue
            sizes.append(web[0])
            told = picture(web)
            self.plain(told)
            self.assertEqual(told, plain_picture(web))
            self.assertIs(need_saying(told), told)
        self.assertEqual(set(sizes), {1, 2, 3, 4})

    def test_bounds(self):
        for size in (1, 2, 3, 4, 5, 31):
            web = (size, tuple((0, start, end) for start in range(size) for end in range(size)))
            if size <= 4:
                self.assertEqual(picture(web), plain_picture(web))
                self.assertLessEqual(plain_words(picture(web)), 400)
            else:
                self.refused(TooGreat, "most", 4, picture, web)
        five = (5, ())
        self.refused(BadParameter, "value", five, picture, five)
        for web in ((2, ()), (2, ((0, 1, 0),)), (3, ((0, 0, 2), (0, 1, 2)))):
            self.refused(BadParameter, "value", web, picture, web)


class TestIsPictured(Refusals, unittest.TestCase):
    def test_examples(self):
        self.assertIs(is_pictured(ENDS, 0, LOOP), True)
        self.assertIs(is_pictured(image=LOOP, world=1, web=ENDS), True)
        self.assertIs(is_pictured((2, ((0, 0, 1),)), 0, LOOP), False)
        self.assertIs(is_pictured(ENDS, 1, ENDS), False)
        self.assertIs(is_pictured(ENDS, 0, ENDS), True)

    def test_all_folds_of_the_part(self):
        images = [web for web in rooted_webs() if web[0] <= 3]
        found = {True: 0, False: 0}
        for web in through_webs():
            for world in range(web[0]):
                part = plain_part(web, world)
                for image in images[::3]:
                    if image[0] ** part[0] > 300:
                        continue
                    told = len(plain_folds(part, image, False)) > 0
                    found[told] += 1
                    self.assertIs(is_pictured(web, world, image), told, (web, world, image))
                    self.assertIs(told, len(all_folds(part, image, False)) > 0)
        self.assertGreater(min(found.values()), 150)

    def test_a_fold_leads_the_root_to_0(self):
        """An image may have several roots; if there is a fold, there is one that begins with 0."""
        several = 0
        for image in rooted_webs():
            for web in through_webs():
                if image[0] <= 3 and image[0] ** web[0] <= 300 and 0 in plain_roots(web):
                    folds = plain_folds(web, image, False)
                    several += any(fold[0] for fold in folds)
                    self.assertEqual(bool(folds), any(fold[0] == 0 for fold in folds))
        self.assertGreater(several, 10)

    def test_five_thousand_maps(self):
        two = (2, ((0, 0, 0), (0, 0, 1), (0, 1, 0), (0, 1, 1)))
        for size, fits in ((12, True), (13, False)):
            web = (size, tuple((0, start, end) for start in range(size) for end in range(size)))
            if fits:
                self.assertIs(is_pictured(web, size - 1, two), True)
                self.assertIs(is_pictured(web, 0, (2, ((0, 0, 0), (0, 0, 1), (0, 1, 1)))), False)
            else:
                self.refused(TooGreat, "most", 5000, is_pictured, web, 0, two)
            self.assertIs(is_pictured(web, 0, LOOP), True)
            self.assertIs(is_pictured(web, 0, ONE), False)
        # The parts count, not the web.
        self.assertIs(is_pictured((200, ()), 199, (5, tuple((0, 0, end) for end in range(1, 5)))), False)
        self.assertIs(is_pictured((200, ()), 199, ONE), True)

    def test_which_refusal_comes_first(self):
        self.refused(BadWorld, "value", 2, is_pictured, ENDS, 2, LINE)
        for value in web_wrong():
            self.refused(BadWeb, "value", value, is_pictured, ENDS, 0, value)
        for image in (LINE, (1, ((1, 0, 0),)), (2, ()), (2, ((0, 1, 0),))):
            self.refused(BadParameter, "value", image, is_pictured, ENDS, 0, image)
        wide = (31, tuple((0, start, end) for start in range(31) for end in range(31)))
        self.refused(BadParameter, "value", (2, ()), is_pictured, wide, 0, (2, ()))
        self.refused(TooGreat, "most", 5000, is_pictured, wide, 0, wide)

    def test_no_tuples(self):
        for value in no_tuples():
            self.refused(BadWeb, "value", value, is_pictured, value, 0, LOOP)


class TestFacts(unittest.TestCase):
    def test_the_picture_fails_exactly_where_a_fold_is(self):
        """[36] with [16]: and the markings under which it fails are the folds that lead the world to 0."""
        images = [web for web in rooted_webs() if web[0] <= 3]
        chance = random.Random(222)
        found = {True: 0, False: 0}
        for web in through_webs():
            for image in chance.sample(images, 8):
                if web[0] * image[0] > 9:
                    continue
                told = picture(image)
                for world in range(web[0]):
                    there = is_pictured(web, world, image)
                    found[there] += 1
                    self.assertIs(is_kept(web, told, world), not there, (web, image, world))
                    if web[0] * image[0] <= 6:
                        self.markings(web, image, told, world)
        self.assertGreater(min(found.values()), 100)

    def markings(self, web, image, told, world):
        worlds = [world, *[there for there in plainly_led(web, 0, world) if there != world]]
        folds = {fold for fold in plain_folds(plain_part(web, world), image, False) if fold[0] == 0}
        failing = set()
        for marking in all_markings(web[0], image[0]):
            if not holds(web, marking, told, world):
                fold = []
                for other in worlds:
                    own = [letter for letter in range(image[0]) if other in marking[letter]]
                    self.assertEqual(len(own), 1)
                    fold.extend(own)
                failing.add(tuple(fold))
        self.assertEqual(failing, folds)
        if folds:
            marking = fails_by(web, told, world)
            self.assertIs(holds(web, marking, told, world), False)

    def test_all_images_of_two_worlds(self):
        images = [web for web in rooted_webs() if web[0] <= 2]
        for web in through_webs():
            for image, world in itertools.product(images, range(web[0])):
                if web[0] * image[0] <= 6:
                    self.assertIs(is_kept(web, picture(image), world), not is_pictured(web, world, image))


if __name__ == "__main__":
    unittest.main()
