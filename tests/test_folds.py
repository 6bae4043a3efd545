"""Point 34: folds, all of them, and least images; what sayings and forms tell of them."""

import itertools
import random
import unittest

from anymarks.errors import BadParameter, BadWeb, TooGreat
from anymarks.folds import all_folds, is_fold, least_image
from anymarks.forms import form_worlds
from anymarks.kept import tried
from anymarks.parts import closed_from, part_of
from anymarks.sayings import holding
from anymarks.there import kept_worlds
from anymarks.webs import need_web
from tests.helpers import (
    GREAT_WEB, LINE, P, WAYS, OddInteger, OddTuple, Refusals, Touchy, all_webs, marking_by, no_numbers, no_tuples,
    plain_letters, plainly_led, saying_by, shaped_by, web_by,
)
from tests.test_forward import forward_form_by
from tests.test_parts import no_boths, ways_made, web_wrong
from tests.test_there import in_shape_or_great

PAIR = (2, ((0, 0, 1), (0, 1, 0)))
LOOP = (1, ((0, 0, 0),))
LONG = (200, tuple((0, world, world + 1) for world in range(199)))
RING = (200, tuple(sorted((kind, world, (world + 1) % 200) for kind in (0, 2) for world in range(200))))
FAN = (200, tuple((0, 0, world) for world in range(1, 200)))


def plainly_folds(web, image, both, value):
    """Whether a tuple of worlds of the image is a fold, as point 34 tells it."""
    if set(value) != set(range(image[0])):
        return False
    return all(
        set(plainly_led(image, way, value[world])) == {value[there] for there in plainly_led(web, way, world)}
        for world in range(web[0]) for way in (WAYS if both else (0, 1, 2))
    )


def plain_folds(web, image, both):
    maps = itertools.product(range(image[0]), repeat=web[0])
    return tuple(value for value in maps if plainly_folds(web, image, both, value))


def tiny_webs():
    """All webs of one or two worlds with one kind, and some of three and four with two kinds."""
    chance = random.Random(211)
    webs = [*all_webs(1, (0,)), (1, ((1, 0, 0),)), *all_webs(2, (0,))]
    webs.extend((size, tuple(arrow for arrow in web_by(chance, size, 2 * size)[1] if arrow[0] != 2))
                for size in (3, 3, 4) for _ in range(14))
    return webs


def folded_by(chance, web, both):
    """A web that folds onto this one, and the fold."""
    many = web[0] + chance.randint(1, 3)
    fold = [*range(web[0]), *[chance.randrange(web[0]) for _ in range(many - web[0])]]
    chance.shuffle(fold)
    arrows = set()
    for kind, start, end in web[1]:
        starts = [world for world in range(many) if fold[world] == start]
        ends = [world for world in range(many) if fold[world] == end]
        arrows.update((kind, one, chance.choice(ends)) for one in starts)
        if both:
            arrows.update((kind, chance.choice(starts), one) for one in ends)
    return (many, tuple(sorted(arrows))), tuple(fold)


class TestIsFold(Refusals, unittest.TestCase):
    def test_the_examples(self):
        self.assertIs(is_fold(PAIR, LOOP, True, (0, 0)), True)
        self.assertIs(is_fold(PAIR, LOOP, False, (0, 0)), True)
        self.assertIs(is_fold(value=(0, 0), both=True, image=LOOP, web=PAIR), True)
        fan = (3, ((0, 0, 2), (0, 1, 2)))
        self.assertIs(is_fold(fan, (2, ((0, 0, 1),)), True, (0, 0, 1)), True)

    def test_forward_alone_and_both_ways(self):
        # Nothing leads to the world 2, but something to the world of the image.
        web, image = (3, ((0, 0, 1),)), (2, ((0, 0, 1),))
        for value, forward, both in (((0, 1, 1), True, False), ((0, 1, 0), False, False), ((0, 1, 2), False, False)):
            self.assertIs(is_fold(web, image, False, value), forward)
            self.assertIs(is_fold(web, image, True, value), both)

    def test_each_world_of_the_image_at_least_once(self):
        # The image has a world that nothing is led to.
        self.assertIs(is_fold(LOOP, (2, ((0, 0, 0),)), False, (0,)), False)
        self.assertIs(is_fold((2, ()), (2, ()), False, (0, 0)), False)
        self.assertIs(is_fold((2, ()), (2, ()), False, (1, 0)), True)
        self.assertIs(is_fold((2, ()), (3, ()), True, (0, 1)), False)
        # As many unlike worlds as the image has, but not all of them are in it.
        for value in ((0, 2), (2, 0), (1, 2), (0, 3), (0, -1), (-1, 1), (0, 10 ** 30)):
            self.assertIs(is_fold((2, ()), (2, ()), False, value), False)

    def test_kinds(self):
        web = (2, ((0, 0, 1), (1, 1, 0)))
        self.assertIs(is_fold(web, (1, ((0, 0, 0),)), False, (0, 0)), False)
        self.assertIs(is_fold(web, (1, ((0, 0, 0), (1, 0, 0))), False, (0, 0)), False)
        for kind in (0, 1, 2):
            self.assertIs(is_fold((2, ((kind, 0, 1), (kind, 1, 0))), (1, ((kind, 0, 0),)), True, (0, 0)), True)
            self.assertIs(is_fold((2, ((kind, 0, 1), (kind, 1, 0))), (1, ()), True, (0, 0)), False)

    def test_all_maps_of_small_webs(self):
        found = {(both, told): 0 for both in (True, False) for told in (True, False)}
        webs = tiny_webs()
        for web in webs:
            for image in webs:
                if image[0] ** web[0] > 81:
                    continue
                for both in (True, False):
                    for value in itertools.product(range(image[0]), repeat=web[0]):
                        told = plainly_folds(web, image, both, value)
                        found[both, told] += 1
                        self.assertIs(is_fold(web, image, both, value), told, (web, image, value))
        self.assertGreater(min(found.values()), 60)

    def test_values_of_any_kind(self):
        for value in [
                *no_tuples(), *no_numbers(), (), (0,), (0, 0, 0), [0, 0], (0, 1), (0, -1), (False, 0), (0, 0.0),
                OddTuple((0, 0)), (0, OddInteger(0)), (0, None), (0, Touchy()), ((0,), 0), (0, [0])]:
            self.assertIs(is_fold(PAIR, LOOP, True, value), False)
            self.assertIs(is_fold(PAIR, LOOP, False, value), False)

    def test_great_webs(self):
        self.assertIs(is_fold(LONG, LONG, True, tuple(range(200))), True)
        self.assertIs(is_fold(RING, (1, ((0, 0, 0), (2, 0, 0))), True, (0,) * 200), True)
        self.assertIs(is_fold(RING, RING, True, (*range(1, 200), 0)), True)
        self.assertIs(is_fold(FAN, (2, ((0, 0, 1),)), True, (0,) + (1,) * 199), True)


class TestAllFolds(Refusals, unittest.TestCase):
    def test_all_maps(self):
        webs = tiny_webs()
        found = 0
        for web in webs:
            for image in webs:
                if image[0] ** web[0] > 81:
                    continue
                for both in (True, False):
                    told = plain_folds(web, image, both)
                    found += len(told)
                    folds = all_folds(web, image, both)
                    self.plain(folds)
                    self.assertEqual(folds, told, (web, image, both))
        self.assertGreater(found, 150)

    def test_webs_made_to_fold(self):
        chance = random.Random(214)
        many = 0
        for web in tiny_webs():
            for both in (True, False):
                wide, fold = folded_by(chance, web, both)
                self.assertIs(is_fold(wide, web, both, fold), plainly_folds(wide, web, both, fold))
                if web[0] ** wide[0] <= 800:
                    told = plain_folds(wide, web, both)
                    many += len(told) > 0
                    self.assertEqual(all_folds(wide, web, both), told)
        self.assertGreater(many, 20)

    def test_examples(self):
        self.assertEqual(all_folds(PAIR, LOOP, True), ((0, 0),))
        self.assertEqual(all_folds(both=False, image=PAIR, web=PAIR), ((0, 1), (1, 0)))
        self.assertEqual(all_folds(LOOP, PAIR, False), ())
        self.assertEqual(all_folds((3, ()), (2, ()), True), tuple(
            value for value in itertools.product((0, 1), repeat=3) if set(value) == {0, 1}))

    def test_five_thousand_maps(self):
        for size, image, fits in ((12, 2, True), (13, 2, False), (7, 3, True), (8, 3, False), (6, 4, True), (7, 4, False),
                                  (5, 5, True), (6, 5, False), (4, 8, True), (4, 9, False), (3, 17, True), (3, 18, False),
                                  (2, 70, True), (2, 71, False), (1, 200, True), (200, 1, True), (200, 200, False)):
            if fits:
                many = len(all_folds((size, ()), (image, ()), True))
                self.assertEqual(many > 0, image <= size)
                if image == 2:
                    self.assertEqual(many, 2 ** size - 2)
            else:
                self.refused(TooGreat, "most", 5000, all_folds, (size, ()), (image, ()), True)
        # An image of one world has one map of any web.
        self.assertEqual(all_folds(RING, (1, ((0, 0, 0), (2, 0, 0))), True), ((0,) * 200,))
        self.assertEqual(all_folds(GREAT_WEB, LOOP, False), ((0,) * 200,))
        self.assertEqual(all_folds(LONG, LOOP, False), ())
        self.assertEqual(all_folds(LOOP, (200, ()), False), ())

    def test_which_refusal_comes_first(self):
        bad = (0, ())
        self.refused(BadWeb, "value", bad, all_folds, bad, 5, 5)
        self.refused(BadWeb, "value", bad, all_folds, RING, bad, 5)
        self.refused(BadParameter, "value", 5, all_folds, RING, RING, 5)
        self.refused(TooGreat, "most", 5000, all_folds, RING, RING, True)


class TestLeastImage(Refusals, unittest.TestCase):
    def test_the_examples(self):
        fan = (3, ((0, 0, 2), (0, 1, 2)))
        for both in (True, False):
            self.assertEqual(least_image(fan, both), ((2, ((0, 0, 1),)), (0, 0, 1)))
            other = (3, ((0, 0, 1), (0, 2, 1), (1, 0, 1)))
            self.assertEqual(least_image(other, both), (other, (0, 1, 2)))
            self.assertEqual(least_image(both=both, web=PAIR), (LOOP, (0, 0)))

    def test_numbered_as_met(self):
        web = (4, ((0, 1, 0), (0, 2, 1), (0, 3, 1)))
        self.assertEqual(least_image(web, False), ((3, ((0, 1, 0), (0, 2, 1))), (0, 1, 2, 2)))
        turned = (4, ((0, 0, 1), (0, 1, 3), (0, 2, 1)))
        self.assertEqual(least_image(turned, True), ((3, ((0, 0, 1), (0, 1, 2))), (0, 1, 0, 2)))
        # Forward alone the world that leads nowhere and that nothing leads to is as the end.
        self.assertEqual(least_image((3, ((0, 0, 1),)), False), ((2, ((0, 0, 1),)), (0, 1, 1)))
        self.assertEqual(least_image((3, ((0, 0, 1),)), True), ((3, ((0, 0, 1),)), (0, 1, 2)))

    def test_one_world_and_the_web_itself(self):
        for both in (True, False):
            self.assertEqual(least_image((200, ()), both), ((1, ()), (0,) * 200))
            self.assertEqual(least_image(RING, both), ((1, ((0, 0, 0), (2, 0, 0))), (0,) * 200))
            self.assertEqual(least_image(LONG, both), (LONG, tuple(range(200))))
            self.assertEqual(least_image(FAN, both), ((2, ((0, 0, 1),)), (0,) + (1,) * 199))
            self.assertEqual(least_image((1, ()), both), ((1, ()), (0,)))

    def test_all_partitions_of_small_webs(self):
        """What any fold leads together it leads together, and it is a fold."""
        for web in tiny_webs():
            for both in (True, False):
                image, fold = told = least_image(web, both)
                self.plain(told)
                self.assertIs(need_web(image), image)
                self.assertTrue(plainly_folds(web, image, both, fold))
                first = {}
                self.assertEqual(fold, tuple(first.setdefault(own, len(first)) for own in fold))
                together = set()
                for value in itertools.product(range(web[0]), repeat=web[0]):
                    onto = (max(value) + 1, tuple(sorted({(kind, value[one], value[two]) for kind, one, two in web[1]})))
                    if plainly_folds(web, onto, both, value):
                        together |= {(one, two) for one in range(web[0]) for two in range(web[0]) if value[one] == value[two]}
                self.assertEqual({(one, two) for one in range(web[0]) for two in range(web[0]) if fold[one] == fold[two]}, together)

    def test_as_rounds_of_parting_tell(self):
        chance = random.Random(215)
        for _ in range(150):
            size = chance.randint(2, 14)
            web = web_by(chance, size, chance.randint(1, 2 * size))
            web = chance.choice((web, folded_by(chance, web, chance.random() < 0.5)[0]))
            for both in (True, False):
                self.assertEqual(least_image(web, both)[1], plain_classes(web, both), (web, both))

    def test_refusals(self):
        for value in web_wrong():
            self.refused(BadWeb, "value", value, least_image, value, Touchy())
        for value in no_boths():
            self.refused(BadParameter, "value", value, least_image, LINE, value)


def plain_classes(web, both):
    """The least fold by parting all worlds as long as they lead to unlike classes."""
    classes = [0] * web[0]
    for _ in range(web[0]):
        seen = [
            (classes[world], *[frozenset(classes[there] for there in plainly_led(web, way, world))
                               for way in (WAYS if both else (0, 1, 2))])
            for world in range(web[0])
        ]
        numbers = {}
        classes = [numbers.setdefault(one, len(numbers)) for one in seen]
    return tuple(classes)


class TestRefusals(Refusals, unittest.TestCase):
    def test_each_parameter(self):
        for function, more in ((is_fold, ((0, 0),)), (all_folds, ())):
            for value in web_wrong():
                self.refused(BadWeb, "value", value, function, value, value, Touchy(), *more)
                self.refused(BadWeb, "value", value, function, PAIR, value, Touchy(), *more)
            for value in no_boths():
                self.refused(BadParameter, "value", value, function, PAIR, LOOP, value, *more)
                self.refused(BadParameter, "value", value, function, PAIR, PAIR, value, *[Touchy() for _ in more])


class TestFacts(unittest.TestCase):
    def test_a_fold_behind_a_fold(self):
        chance = random.Random(216)
        checked = 0
        for web in tiny_webs():
            for both in (True, False):
                wide, fold = folded_by(chance, web, both)
                wider, other = folded_by(chance, wide, both)
                if is_fold(wide, web, both, fold) and is_fold(wider, wide, both, other):
                    checked += 1
                    self.assertIs(is_fold(wider, web, both, tuple(fold[world] for world in other)), True)
        self.assertGreater(checked, 60)

    def test_just_one_fold_onto_the_least_image(self):
        chance = random.Random(217)
        checked = 0
        for web in tiny_webs():
            for both in (True, False):
                wide, fold = folded_by(chance, web, both)
                image, least = least_image(wide, both)
                if not is_fold(wide, web, both, fold) or image[0] ** web[0] > 5000:
                    continue
                checked += 1
                folds = all_folds(web, image, both)
                behind = [value for value in folds if tuple(value[world] for world in fold) == least]
                self.assertEqual(len(behind), 1)
                # The least image of an image is, but for numbers, that of the web.
                small, _ = least_image(web, both)
                self.assertEqual((small[0], len(small[1])), (image[0], len(image[1])))
                self.assertEqual(len(all_folds(small, image, both)) > 0, True)
        self.assertGreater(checked, 60)

    def test_what_is_kept_goes_over_to_the_image(self):
        """[34] with [13] and [16]: by all markings, without ways back along folds forward, else both ways."""
        chance = random.Random(218)
        found = {(both, told): 0 for both in (True, False) for told in (True, False)}
        webs = [web for web in tiny_webs() if web[0] <= 3]
        while min(found.values()) < 60:
            both = chance.random() < 0.5
            web = chance.choice(webs)
            wide, fold = folded_by(chance, web, both)
            if not is_fold(wide, web, both, fold):
                continue
            saying = saying_by(chance, 4, 2)
            saying = saying if both else ways_made(saying, lambda way: way % 3)
            marking = marking_by(chance, web[0], 2)
            pulled = tuple(tuple(world for world in range(wide[0]) if fold[world] in item) for item in marking)
            held = holding(web, marking, saying)
            self.assertEqual(holding(wide, pulled, saying), tuple(world for world in range(wide[0]) if fold[world] in held))
            if len(plain_letters(saying)) * wide[0] > 10:
                continue
            there = tried(web, saying)
            for world in tried(wide, saying):
                found[both, True] += 1
                self.assertIn(fold[world], there, (wide, web, saying))
            found[both, False] += wide[0] - len(tried(wide, saying))

    def test_forms_go_over_to_the_image(self):
        """[27] with [34]: forward forms along folds forward; [7]: any sayings in shape along folds both ways."""
        chance = random.Random(219)
        checked = 0
        for web in tiny_webs():
            for both in (True, False):
                wide, fold = folded_by(chance, web, both)
                if not is_fold(wide, web, both, fold):
                    continue
                form = forward_form_by(chance, 2, 2, 3)
                there = form_worlds(web, form)
                for world in form_worlds(wide, form):
                    checked += 1
                    self.assertIn(fold[world], there)
                saying = shaped_by(chance, 4)
                if both and in_shape_or_great(saying):
                    self.assertTrue({fold[world] for world in kept_worlds(wide, saying)} <= set(kept_worlds(web, saying)))
        self.assertGreater(checked, 60)

    def test_not_the_other_way_round(self):
        saying = ("gives", ("each", 0, P), P)
        self.assertEqual(tried(LOOP, saying), (0,))
        self.assertEqual(tried(PAIR, saying), ())

    def test_ways_back_do_not_go_over_along_folds_forward(self):
        web, image, fold = (3, ((0, 0, 1),)), (2, ((0, 0, 1),)), (0, 1, 1)
        self.assertIs(is_fold(web, image, False, fold), True)
        saying = ("each", -1, P)
        self.assertEqual(tried(web, saying), (0, 2))
        self.assertEqual(tried(image, saying), (0,))

    def test_parts_fold_as_the_web_does(self):
        chance = random.Random(220)
        for web in tiny_webs():
            wide, fold = folded_by(chance, web, False)
            if is_fold(wide, web, False, fold):
                worlds = closed_from(wide, (0,), False)
                onto = closed_from(web, (fold[0],), False)
                value = tuple(onto.index(fold[world]) for world in worlds)
                self.assertIs(is_fold(part_of(wide, worlds), part_of(web, onto), False, value), True)


if __name__ == "__main__":
    unittest.main()
