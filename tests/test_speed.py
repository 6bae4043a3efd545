"""The greatest webs and sayings that may be handed in are answered without delay."""

import time
import unittest

from anymarks.inward import inward, is_negative, is_positive, turned_about
from anymarks.sayings import (
    deep_in, holding, holds, letters_in, need_marking, need_saying, put_in, renamed, words_in,
)
from anymarks.webs import kinds_changed, led_to, need_web, web_turned
from tests.helpers import GREAT_WEB, P, bush, chain

FULL_WEB = (200, tuple(sorted([
    (kind, start, (7 * start + step) % 200)
    for kind, many in ((0, 2), (1, 2), (2, 1)) for start in range(200) for step in range(many)
])))
MARKING = tuple([tuple(range(letter, 200, letter + 1)) for letter in range(8)])
MOST_SECONDS = 5


def wide(words):
    """A saying of so many words, nearly all of them an each or a some."""
    if words <= 30:
        saying = P
        for step in range(words - 1):
            saying = (("each", "some")[step % 2], step % 6 - 3, saying)
        return saying
    first = (words - 1) // 2
    return ("or", wide(first), wide(words - 1 - first))


def tall():
    """A saying of 400 words and 40 deep."""
    saying = ("letter", 7)
    for height in range(1, 40):
        saying = ("gives", wide(min(height, 10 if height < 25 else 11)), saying)
    return saying


class TestSpeed(unittest.TestCase):
    def setUp(self):
        self.begun = time.perf_counter()

    def tearDown(self):
        self.assertLess(time.perf_counter() - self.begun, MOST_SECONDS)

    def test_webs(self):
        for web in (GREAT_WEB, FULL_WEB):
            self.assertEqual((web[0], len(need_web(web)[1])), (200, 1000))
            web_turned(web)
            kinds_changed(web, (1, 1, 0))
            for way in range(-3, 3):
                for world in (0, 1, 100, 199):
                    led_to(web, way, world)

    def test_sayings(self):
        for saying in (wide(400), tall(), chain(40), bush(400)):
            for reader in (need_saying, letters_in, inward, turned_about, is_positive, is_negative):
                reader(saying)
            renamed(saying, (0,) * 8)
            put_in(saying, 0, ("yes",))
            for web in (GREAT_WEB, FULL_WEB):
                need_marking(web, MARKING)
                holding(web, MARKING, saying)
                holds(web, MARKING, saying, 199)

    def test_they_are_the_greatest(self):
        self.assertEqual((words_in(tall()), deep_in(tall())), (400, 40))
        self.assertEqual((words_in(wide(400)), words_in(bush(400)), deep_in(chain(40))), (400, 400, 40))


if __name__ == "__main__":
    unittest.main()
