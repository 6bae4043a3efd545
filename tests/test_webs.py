"""Point 2 and 11: webs, ways, and where they lead."""

import itertools
import unittest

from anymarks.errors import BadParameter, BadWay, BadWeb, BadWorld
from anymarks.webs import kinds_changed, led_to, need_web, web_turned
from tests.helpers import (
    GREAT_WEB, LINE, WAYS, OddInteger, Refusals, Touchy, no_numbers, no_tuples, plainly_led, small_webs,
)

KNOT = (3, ((0, 0, 1), (0, 0, 2), (0, 2, 2), (1, 1, 0), (2, 0, 2), (2, 1, 2)))


def wrong_webs():
    """Values that are no webs."""
    found = no_tuples()
    found.extend([(), ((), ()), (1,), (1, (), ()), [1, ()], (1, []), (1, [(0, 0, 0)]), ((), 1), (1, {}), (1, "")])
    found.extend([(size, ()) for size in [0, -1, 201, 10 ** 5000, *no_numbers()]])
    found.extend([(1, value) for value in no_tuples()])
    for arrow in ((), (0,), (0, 0), (0, 0, 0, 0), [0, 0, 0], "000", b"000", None, 0, Touchy(), {0}):
        found.append((1, (arrow,)))
    for wrong in [-1, 3, 10 ** 5000, *no_numbers()]:
        found.extend([(3, ((wrong, 0, 0),)), (3, ((0, wrong, 0),)), (3, ((0, 0, wrong),))])
    found.extend([(3, ((0, 0, 0), value)) for value in no_tuples()])
    found.extend([
        (2, ((0, 0, 1), (0, 0, 0))), (2, ((0, 1, 0), (0, 0, 1))), (2, ((1, 0, 0), (0, 1, 1))),
        (2, ((0, 0, 1), (0, 0, 1))), (2, ((0, 0, 0), (0, 0, 1), (0, 0, 1))),
        (2, ((0, 0, 0), (2, 0, 1), (1, 1, 1))), (200, ((0, 0, 200),)), (1, ((0, 0, 1),)),
        (200, GREAT_WEB[1] + ((1, 0, 0),)), (200, GREAT_WEB[1] * 1000),
    ])
    return found


class TestNeedWeb(Refusals, unittest.TestCase):
    def test_webs_come_back_as_handed_in(self):
        least, great = (1, ()), (200, ((0, 0, 199), (0, 199, 0), (2, 199, 199)))
        for web in (least, great, GREAT_WEB, LINE, KNOT, *small_webs()):
            self.assertIs(need_web(web), web)
            self.assertIs(need_web(web=web), web)

    def test_great_web_has_all_it_may(self):
        self.assertEqual((GREAT_WEB[0], len(GREAT_WEB[1])), (200, 1000))

    def test_other_values(self):
        for value in wrong_webs():
            self.refused(BadWeb, "value", value, need_web, value)

    def test_each_kind_and_world(self):
        for size in (1, 2, 200):
            for kind, start, end in itertools.product((0, 1, 2), (0, size - 1), (0, size - 1)):
                web = (size, ((kind, start, end),))
                self.assertIs(need_web(web), web)


class TestLedTo(Refusals, unittest.TestCase):
    def test_ways(self):
        told = {
            (0, 0): (1, 2), (0, 1): (), (0, 2): (2,), (1, 0): (), (1, 1): (0,), (1, 2): (),
            (2, 0): (2,), (2, 1): (2,), (2, 2): (), (-1, 0): (), (-1, 1): (0,), (-1, 2): (0, 2),
            (-2, 0): (1,), (-2, 1): (), (-2, 2): (), (-3, 0): (), (-3, 1): (), (-3, 2): (0, 1),
        }
        for (way, world), worlds in told.items():
            self.assertEqual(led_to(KNOT, way, world), worlds)
            self.assertEqual(led_to(world=world, way=way, web=KNOT), worlds)

    def test_as_the_document_tells(self):
        for web in small_webs():
            for way, world in itertools.product(WAYS, range(web[0])):
                found = led_to(web, way, world)
                self.plain(found)
                self.assertEqual(found, tuple(plainly_led(web, way, world)))

    def test_great_web(self):
        self.assertEqual(led_to(GREAT_WEB, 0, 199), (99, 100, 101, 102, 103))
        self.assertEqual(led_to(GREAT_WEB, -1, 103), tuple(range(198, 200)))
        self.assertEqual(led_to(GREAT_WEB, -1, 4), tuple(range(0, 10)))

    def test_wrong_ways(self):
        for value in [-4, 3, 10 ** 5000, *no_numbers()]:
            self.refused(BadWay, "value", value, led_to, LINE, value, 0)
            self.refused(BadWay, "value", value, led_to, LINE, value, 3)

    def test_wrong_worlds(self):
        for value in [-1, 3, 200, 10 ** 5000, OddInteger(0), *no_numbers()]:
            self.refused(BadWorld, "value", value, led_to, LINE, 0, value)
            self.refused(BadWorld, "value", value, led_to, web=LINE, way=-3, world=value)

    def test_wrong_webs_come_first(self):
        for value in wrong_webs():
            self.refused(BadWeb, "value", value, led_to, value, 0, 0)
            self.refused(BadWeb, "value", value, led_to, value, 3, -1)


class TestWebTurned(Refusals, unittest.TestCase):
    def test_turned(self):
        self.assertEqual(web_turned(LINE), (3, ((0, 1, 0), (0, 2, 1))))
        self.assertEqual(web_turned((1, ())), (1, ()))
        turned = (3, ((0, 1, 0), (0, 2, 0), (0, 2, 2), (1, 0, 1), (2, 2, 0), (2, 2, 1)))
        self.assertEqual(web_turned(web=KNOT), turned)

    def test_leads_as_the_way_turned(self):
        for web in small_webs():
            turned = web_turned(web)
            self.plain(turned)
            self.assertIs(need_web(turned), turned)
            self.assertEqual(web_turned(turned), web)
            for way, world in itertools.product(WAYS, range(web[0])):
                self.assertEqual(led_to(turned, way, world), led_to(web, -1 - way, world))

    def test_wrong_webs(self):
        for value in wrong_webs():
            self.refused(BadWeb, "value", value, web_turned, value)


class TestKindsChanged(Refusals, unittest.TestCase):
    def test_changed(self):
        self.assertEqual(kinds_changed(LINE, (2, 0, 0)), (3, ((2, 0, 1), (2, 1, 2))))
        self.assertEqual(kinds_changed(web=KNOT, kinds=(0, 1, 2)), KNOT)
        self.assertEqual(
            kinds_changed(KNOT, (2, 0, 1)),
            (3, ((0, 1, 0), (1, 0, 2), (1, 1, 2), (2, 0, 1), (2, 0, 2), (2, 2, 2))))

    def test_arrows_that_become_alike_are_one(self):
        web = (2, ((0, 0, 1), (1, 0, 1), (1, 1, 1), (2, 0, 1)))
        self.assertEqual(kinds_changed(web, (1, 1, 1)), (2, ((1, 0, 1), (1, 1, 1))))
        self.assertEqual(kinds_changed(web, (0, 2, 0)), (2, ((0, 0, 1), (2, 0, 1), (2, 1, 1))))
        self.assertEqual(kinds_changed(KNOT, (0, 0, 0)),
                         (3, ((0, 0, 1), (0, 0, 2), (0, 1, 0), (0, 1, 2), (0, 2, 2))))

    def test_leads_where_one_of_the_kinds_led(self):
        for web in small_webs():
            for kinds in itertools.product((0, 1, 2), repeat=3):
                changed = kinds_changed(web, kinds)
                self.plain(changed)
                self.assertIs(need_web(changed), changed)
                told = {(kinds[kind], start, end) for kind, start, end in web[1]}
                self.assertEqual(changed, (web[0], tuple(sorted(told))))

    def test_wrong_kinds(self):
        found = [*no_tuples(), (), (0,), (0, 1), (0, 1, 2, 0), [0, 1, 2], (0, 1, [2]), "012"]
        for wrong in [-1, 3, 10 ** 5000, *no_numbers()]:
            found.extend([(wrong, 0, 0), (0, wrong, 0), (0, 0, wrong)])
        for value in found:
            self.refused(BadParameter, "value", value, kinds_changed, LINE, value)
            self.refused(BadParameter, "value", value, kinds_changed, kinds=value, web=(1, ()))

    def test_wrong_webs_come_first(self):
        for value in wrong_webs():
            self.refused(BadWeb, "value", value, kinds_changed, value, (0, 1, 2))
            self.refused(BadWeb, "value", value, kinds_changed, value, [])


if __name__ == "__main__":
    unittest.main()
