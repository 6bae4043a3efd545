"""What the tests share: odd values, small webs and sayings, and slow, plain answers."""

import itertools
import random

from anymarks.errors import MarkError

P, Q, R = ("letter", 0), ("letter", 1), ("letter", 2)
YES, NO = ("yes",), ("no",)
WAYS = (-3, -2, -1, 0, 1, 2)
LINE = (3, ((0, 0, 1), (0, 1, 2)))
GREAT_WEB = (200, tuple([(0, world, world // 2 + step) for world in range(200) for step in range(5)]))


class Touchy:
    """Refuses to be compared, hashed, shown, measured or gone through."""

    def _refuse(self, *rest):
        raise RuntimeError("not to be touched")

    __eq__ = __ne__ = __lt__ = __le__ = __gt__ = __ge__ = _refuse
    __hash__ = __repr__ = __str__ = __len__ = __iter__ = __getitem__ = __bool__ = _refuse
    __int__ = __index__ = __contains__ = _refuse


class OddTuple(tuple):
    """A tuple that is equal to everything and tells a length of its own."""

    def __eq__(self, other):
        return True

    def __len__(self):
        return 2

    __hash__ = tuple.__hash__


class OddInteger(int):
    """An integer that is between all others."""

    def __le__(self, other):
        return True

    def __ge__(self, other):
        return True


class OddText(str):
    """A text that is equal to every other one."""

    def __eq__(self, other):
        return True

    def __hash__(self):
        return hash("letter")


def endless_list():
    endless = []
    endless.append(endless)
    return endless


def deep_tuple():
    deep = ()
    for _ in range(100000):
        deep = (deep,)
    return deep


def no_numbers():
    """Values that are no integers, whatever the range."""
    return [
        None, True, False, 0.0, 1.0, float("nan"), 1 + 0j, "0", b"0", (), (0,), [0], {0: 0}, {0},
        object(), int, len, Touchy(), OddInteger(1), OddInteger(0), endless_list(), deep_tuple(),
    ]


def no_tuples():
    """Values that are no tuples, and tuples of odd things of which nothing in the package is made."""
    return [
        None, True, False, 0, 1, -1, 10 ** 5000, 1.5, float("nan"), "", "letter", b"", [], {}, set(),
        object(), tuple, len, Touchy(), OddTuple(), OddTuple((1, ())), OddTuple(("yes",)),
        endless_list(), deep_tuple(), (None,), (Touchy(),), (Touchy(), Touchy()), (0, 1.5),
        ([], []), ({}, set(), []), range(3), iter(()),
    ]


def refusal(call):
    """What the call raises; it must be an error of the package."""
    try:
        told = call()
    except MarkError as error:
        return error
    raise AssertionError(f"no refusal, but a result of the kind {type(told).__name__}")


class Refusals:
    """Beside unittest.TestCase: asks for an error of just this class with just these attributes."""

    def refused(self, error_class, attribute, value, function, *args, **named):
        error = refusal(lambda: function(*args, **named))
        self.assertIs(type(error), error_class)
        self.assertEqual(list(vars(error)), [attribute])
        if attribute == "value":
            self.assertIs(error.value, value)
        else:
            self.assertEqual(getattr(error, attribute), value)

    def plain(self, value):
        """Results are made of tuples, integers, texts, True and False alone."""
        self.assertIn(type(value), (tuple, int, str, bool))
        if type(value) is tuple:
            for item in value:
                self.plain(item)


def all_webs(size, kinds):
    """All webs with so many worlds and with arrows of these kinds alone."""
    places = [(kind, start, end) for kind in kinds for start in range(size) for end in range(size)]
    for chosen in itertools.product((False, True), repeat=len(places)):
        yield (size, tuple([place for place, there in zip(places, chosen) if there]))


def small_webs():
    """All with one world, all of two worlds with one kind, and some greater ones."""
    webs = [*all_webs(1, (0, 1, 2)), *all_webs(2, (0,)), *list(all_webs(2, (0, 2)))[::7]]
    webs.extend(list(all_webs(3, (0,)))[::11])
    chance = random.Random(11)
    for size in (3, 4, 5, 7):
        for _ in range(6):
            webs.append(web_by(chance, size, 3 * size))
    return webs


def web_by(chance, size, arrows):
    """A web with so many worlds and at most so many arrows."""
    found = {
        (chance.randrange(3), chance.randrange(size), chance.randrange(size)) for _ in range(arrows)
    }
    return (size, tuple(sorted(found)))


def all_markings(size, letters):
    """All markings of so many letters."""
    worlds = range(size)
    items = [item for many in range(size + 1) for item in itertools.combinations(worlds, many)]
    return itertools.product(items, repeat=letters)


def marking_by(chance, size, letters):
    """A marking of so many letters."""
    return tuple([
        tuple([world for world in range(size) if chance.random() < 0.5]) for _ in range(letters)
    ])


def saying_by(chance, deep, letters=3):
    """A saying at most so deep with some of so many letters."""
    if deep == 1 or chance.random() < 0.1:
        return chance.choice([("letter", chance.randrange(letters))] * 6 + [YES, NO])
    word = chance.choice(("not", "and", "or", "gives", "each", "some"))
    if word == "not":
        return (word, saying_by(chance, deep - 1, letters))
    if word in ("each", "some"):
        return (word, chance.choice(WAYS), saying_by(chance, deep - 1, letters))
    return (word, saying_by(chance, deep - 1, letters), saying_by(chance, deep - 1, letters))


def flat_sayings():
    """All sayings at most two deep, with two letters and two ways."""
    least = [P, Q, YES, NO]
    found = list(least)
    found.extend([("not", part) for part in least])
    for word in ("and", "or", "gives"):
        found.extend([(word, first, second) for first in least for second in least])
    for word in ("each", "some"):
        found.extend([(word, way, part) for way in (0, -1) for part in least])
    return found


def many_sayings():
    """All the flat ones, each of them beneath some word, and many deeper ones."""
    flat = flat_sayings()
    found = [*flat, *[("not", one) for one in flat], *[("each", -2, one) for one in flat]]
    found.extend([("gives", one, other) for one, other in zip(flat, flat[5:])])
    chance = random.Random(12)
    found.extend([saying_by(chance, 3 + number % 4) for number in range(400)])
    return found


def plainly_holds(web, marking, saying, world):
    """Whether a saying holds, world by world, as point 3 of the document tells it."""
    word = saying[0]
    if word == "letter":
        return saying[1] < len(marking) and world in marking[saying[1]]
    if word in ("yes", "no"):
        return word == "yes"
    if word in ("each", "some"):
        there = plainly_led(web, saying[1], world)
        found = [plainly_holds(web, marking, saying[2], other) for other in there]
        return all(found) if word == "each" else any(found)
    found = [plainly_holds(web, marking, part, world) for part in saying[1:]]
    return {
        "not": lambda: not found[0],
        "and": lambda: found[0] and found[1],
        "or": lambda: found[0] or found[1],
        "gives": lambda: not found[0] or found[1],
    }[word]()


def plainly_led(web, way, world):
    """The worlds led to from a world by a way, as point 2 of the document tells it."""
    size, arrows = web
    if way >= 0:
        return [there for there in range(size) if (way, world, there) in arrows]
    return [there for there in range(size) if (-1 - way, there, world) in arrows]


def chain(deep, end=P):
    """A saying of so many words that is as deep."""
    for _ in range(deep - 1):
        end = ("not", end)
    return end


def bush(words):
    """A saying of so many words that is not deep."""
    if words <= 2:
        return chain(words)
    first = (words - 1) // 2
    return ("and", bush(first), bush(words - 1 - first))
