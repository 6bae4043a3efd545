"""What the tests share: odd values, small webs and sayings, and slow, plain answers."""

import itertools
import random

from anymarks.errors import MarkError, NoRow, NoShape
from anymarks.inward import turned_about

P, Q, R = ("letter", 0), ("letter", 1), ("letter", 2)
YES, NO = ("yes",), ("no",)
WAYS = (-3, -2, -1, 0, 1, 2)
LINE = (3, ((0, 0, 1), (0, 1, 2)))
GREAT_WEB = (200, tuple([(0, world, world // 2 + step) for world in range(200) for step in range(5)]))


class Touchy:
    """Refuses to be compared, hashed, shown, measured or gone through."""

    def _refuse(self, *rest):
        raise RuntimeError("not to be touched")

    __eq__ = __ne__ = __lt__ = __le__ = __gt__ = __ge__ = _refuse
    __hash__ = __repr__ = __str__ = __len__ = __iter__ = __getitem__ = __bool__ = _refuse
    __int__ = __index__ = __contains__ = _refuse


class OddTuple(tuple):
    """A tuple that is equal to everything and tells a length of its own."""

    def __eq__(self, other):
        return True

    def __len__(self):
        return 2

    __hash__ = tuple.__hash__


class OddInteger(int):
    """An integer that is between all others."""

    def __le__(self, other):
        return True

    def __ge__(self, other):
        return True


class OddText(str):
    """A text that is equal to every other one."""

    def __eq__(self, other):
        return True

    def __hash__(self):
        return hash("letter")


def endless_list():
    endless = []
    endless.append(endless)
    return endless


def deep_tuple():
    deep = ()
    for _ in range(100000):
        deep = (deep,)
    return deep


def no_numbers():
    """Values that are no integers, whatever the range."""
    return [
        None, True, False, 0.0, 1.0, float("nan"), 1 + 0j, "0", b"0", (), (0,), [0], {0: 0}, {0},
        object(), int, len, Touchy(), OddInteger(1), OddInteger(0), endless_list(), deep_tuple(),
    ]


def no_tuples():
    """Values that are no tuples, and tuples of odd things of which nothing in the package is made."""
    return [
        None, True, False, 0, 1, -1, 10 ** 5000, 1.5, float("nan"), "", "letter", b"", [], {}, set(),
        object(), tuple, len, Touchy(), OddTuple(), OddTuple((1, ())), OddTuple(("yes",)),
        endless_list(), deep_tuple(), (None,), (Touchy(),), (Touchy(), Touchy()), (0, 1.5),
        ([], []), ({}, set(), []), range(3), iter(()),
    ]


def refusal(call):
    """What the call raises; it must be an error of the package."""
    try:
        told = call()
    except MarkError as error:
        return error
    raise AssertionError(f"no refusal, but a result of the kind {type(told).__name__}")


class Refusals:
    """Beside unittest.TestCase: asks for an error of just this class with just these attributes."""

    def refused(self, error_class, attribute, value, function, *args, **named):
        error = refusal(lambda: function(*args, **named))
        self.assertIs(type(error), error_class)
        self.assertEqual(list(vars(error)), [attribute])
        if attribute == "value":
            self.assertIs(error.value, value)
        else:
            self.assertEqual(getattr(error, attribute), value)

    def out_of_shape(self, value, letters, function, *args, **named):
        """Asks for NoShape: with a piece, which may be made anew, or with letters."""
        error = refusal(lambda: function(*args, **named))
        self.assertIs(type(error), NoShape)
        self.assertEqual(list(vars(error)), ["value", "letters"])
        self.assertEqual((error.value, error.letters), (value, letters))
        self.plain(error.letters)

    def no_row(self, function, *args, **named):
        error = refusal(lambda: function(*args, **named))
        self.assertIs(type(error), NoRow)
        self.assertEqual(vars(error), {})

    def plain(self, value):
        """Results are made of tuples, integers, texts, True and False alone."""
        self.assertIn(type(value), (tuple, int, str, bool))
        if type(value) is tuple:
            for item in value:
                self.plain(item)


def all_webs(size, kinds):
    """All webs with so many worlds and with arrows of these kinds alone."""
    places = [(kind, start, end) for kind in kinds for start in range(size) for end in range(size)]
    for chosen in itertools.product((False, True), repeat=len(places)):
        yield (size, tuple([place for place, there in zip(places, chosen) if there]))


def small_webs():
    """All with one world, all of two worlds with one kind, and some greater ones."""
    webs = [*all_webs(1, (0, 1, 2)), *all_webs(2, (0,)), *list(all_webs(2, (0, 2)))[::7]]
    webs.extend(list(all_webs(3, (0,)))[::11])
    chance = random.Random(11)
    for size in (3, 4, 5, 7):
        for _ in range(6):
            webs.append(web_by(chance, size, 3 * size))
    return webs


def web_by(chance, size, arrows):
    """A web with so many worlds and at most so many arrows."""
    found = {
        (chance.randrange(3), chance.randrange(size), chance.randrange(size)) for _ in range(arrows)
    }
    return (size, tuple(sorted(found)))


def all_markings(size, letters):
    """All markings of so many letters."""
    worlds = range(size)
    items = [item for many in range(size + 1) for item in itertools.combinations(worlds, many)]
    return itertools.product(items, repeat=letters)


def marking_by(chance, size, letters):
    """A marking of so many letters."""
    return tuple([
        tuple([world for world in range(size) if chance.random() < 0.5]) for _ in range(letters)
    ])


def saying_by(chance, deep, letters=3):
    """A saying at most so deep with some of so many letters."""
    if deep == 1 or chance.random() < 0.1:
        return chance.choice([("letter", chance.randrange(letters))] * 6 + [YES, NO])
    word = chance.choice(("not", "and", "or", "gives", "each", "some"))
    if word == "not":
        return (word, saying_by(chance, deep - 1, letters))
    if word in ("each", "some"):
        return (word, chance.choice(WAYS), saying_by(chance, deep - 1, letters))
    return (word, saying_by(chance, deep - 1, letters), saying_by(chance, deep - 1, letters))


def flat_sayings():
    """All sayings at most two deep, with two letters and two ways."""
    least = [P, Q, YES, NO]
    found = list(least)
    found.extend([("not", part) for part in least])
    for word in ("and", "or", "gives"):
        found.extend([(word, first, second) for first in least for second in least])
    for word in ("each", "some"):
        found.extend([(word, way, part) for way in (0, -1) for part in least])
    return found


def many_sayings():
    """All the flat ones, each of them beneath some word, and many deeper ones."""
    flat = flat_sayings()
    found = [*flat, *[("not", one) for one in flat], *[("each", -2, one) for one in flat]]
    found.extend([("gives", one, other) for one, other in zip(flat, flat[5:])])
    chance = random.Random(12)
    found.extend([saying_by(chance, 3 + number % 4) for number in range(400)])
    return found


def plainly_holds(web, marking, saying, world):
    """Whether a saying holds, world by world, as point 3 of the document tells it."""
    word = saying[0]
    if word == "letter":
        return saying[1] < len(marking) and world in marking[saying[1]]
    if word in ("yes", "no"):
        return word == "yes"
    if word in ("each", "some"):
        there = plainly_led(web, saying[1], world)
        found = [plainly_holds(web, marking, saying[2], other) for other in there]
        return all(found) if word == "each" else any(found)
    found = [plainly_holds(web, marking, part, world) for part in saying[1:]]
    return {
        "not": lambda: not found[0],
        "and": lambda: found[0] and found[1],
        "or": lambda: found[0] or found[1],
        "gives": lambda: not found[0] or found[1],
    }[word]()


def plainly_led(web, way, world):
    """The worlds led to from a world by a way, as point 2 of the document tells it."""
    size, arrows = web
    if way >= 0:
        return [there for there in range(size) if (way, world, there) in arrows]
    return [there for there in range(size) if (-1 - way, there, world) in arrows]


def chain(deep, end=P):
    """A saying of so many words that is as deep."""
    for _ in range(deep - 1):
        end = ("not", end)
    return end


def bush(words):
    """A saying of so many words that is not deep."""
    if words <= 2:
        return chain(words)
    first = (words - 1) // 2
    return ("and", bush(first), bush(words - 1 - first))


def markings_of(web, saying):
    """All markings of the letters in a saying, with () for those between them."""
    letters = sorted(plain_letters(saying))
    for worlds in all_markings(web[0], len(letters)):
        marking = [()] * (max(letters, default=-1) + 1)
        for letter, item in zip(letters, worlds):
            marking[letter] = item
        yield tuple(marking)


def plain_failing(web, saying):
    """For each world the least marking under which the saying fails there, of all markings."""
    found = [None] * web[0]
    for marking in markings_of(web, saying):
        for world in range(web[0]):
            if not plainly_holds(web, marking, saying, world):
                found[world] = min(found[world] or (((99,),) * 9), marking)
    return found


def plainly_negative(saying, beneath=False):
    """Whether each letter of an inward saying stands beneath a not."""
    if saying[0] == "letter":
        return beneath
    return all(plainly_negative(part, saying[0] == "not") for part in saying if isinstance(part, tuple))


def plain_pieces(saying):
    """The pieces of an inward saying, as point 6 of the document tells them."""
    if plainly_negative(saying):
        return [saying]
    if saying[0] == "and":
        return [*plain_pieces(saying[1]), *plain_pieces(saying[2])]
    if saying[0] == "each":
        return [("each", saying[1], piece) for piece in plain_pieces(saying[2])]
    if saying[0] == "or":
        first, second = saying[1:]
        if plainly_negative(first):
            return [("or", first, piece) for piece in plain_pieces(second)]
        if plainly_negative(second):
            return [("or", piece, second) for piece in plain_pieces(first)]
    return [saying]


def plain_box(saying):
    """(HEAD, needed letters) of an inward saying that is a box, else None."""
    if saying[0] == "letter":
        return saying[1], set()
    if saying[0] == "each":
        return plain_box(saying[2])
    if saying[0] == "or":
        for negative, other in (saying[1:], saying[:0:-1]):
            box = plain_box(other)
            if plainly_negative(negative) and box:
                return box[0], box[1] | plain_letters(negative)
    return None


def plain_letters(saying):
    """The set of the letters in a saying."""
    if saying[0] == "letter":
        return {saying[1]}
    return set().union(*[plain_letters(part) for part in saying if isinstance(part, tuple)])


def plain_choices(saying):
    """For each row of choices the list of what the walk meets in an inward saying."""
    if plainly_negative(saying):
        return [[("end", turned_about(saying))]]
    if saying[0] == "letter":
        return [[("box", saying)]]
    if saying[0] == "or":
        return [*plain_choices(saying[1]), *plain_choices(saying[2])]
    if saying[0] == "some":
        return [[("world", saying[1], inner)] for inner in plain_choices(saying[2])]
    if saying[0] == "and":
        return [
            first + second
            for first in plain_choices(saying[1]) for second in plain_choices(saying[2])
        ]
    pieces = plain_pieces(saying)
    return [[
        ("end", turned_about(piece)) if plainly_negative(piece) else ("box", piece) for piece in pieces
    ]]


def plain_rows(saying):
    """All rows of choices of a saying as (TREE, ENDS, BOXES); "wrong" with a piece if one is none."""
    about = turned_about(saying)
    wrong = plain_wrong_pieces(about)
    if wrong:
        return "wrong", wrong[0]
    rows = []
    for chosen in plain_choices(about):
        tree, ends, boxes = [], [[]], []
        plainly_numbered(chosen, 0, tree, ends, boxes)
        rows.append((tuple(tree), tuple(map(tuple, ends)), tuple(boxes)))
    return rows


def plain_wrong_pieces(saying):
    """The pieces met on the walk through an inward saying that are neither negative nor boxes."""
    if plainly_negative(saying) or saying[0] == "letter":
        return []
    if saying[0] == "each":
        pieces = plain_pieces(saying)
        return [piece for piece in pieces if not plainly_negative(piece) and plain_box(piece) is None]
    return [piece for part in saying if isinstance(part, tuple) for piece in plain_wrong_pieces(part)]


def plainly_numbered(met, place, tree, ends, boxes):
    """Number the worlds of a row of choices, and put its ends and boxes at them."""
    for word, *told in met:
        if word == "end":
            ends[place].append(told[0])
        elif word == "box":
            boxes.append((place, told[0]))
        else:
            tree.append((place, told[0]))
            ends.append([])
            plainly_numbered(told[1], len(tree), tree, ends, boxes)


def plain_needs(row):
    """For each letter that heads a box of a row the set of the letters needed for it."""
    needs = {}
    for _, box in row[2]:
        head, needed = plain_box(box)
        needs[head] = needs.get(head, set()) | needed
    return needs


def plain_circles(row):
    """The letters that are needed for themselves in a row."""
    needs = plain_needs(row)
    reached = {letter: set(needed) for letter, needed in needs.items()}
    for _ in range(8):
        for letter, found in reached.items():
            for other in list(found):
                found |= needs.get(other, set())
    return tuple(sorted(letter for letter, found in reached.items() if letter in found))


def plainly_fact_holds(web, fact, worlds, world):
    """Whether a fact holds at a world, as point 5 of the document tells it."""
    word = fact[0]
    if word in ("yes", "no"):
        return word == "yes"
    if word == "here":
        return worlds[fact[1]] == world
    if word in ("and", "or"):
        found = [plainly_fact_holds(web, part, worlds, world) for part in fact[1:]]
        return all(found) if word == "and" else any(found)
    found = [plainly_fact_holds(web, fact[2], worlds, there) for there in plainly_led(web, fact[1], world)]
    return all(found) if word == "each" else any(found)


def plain_world_rows(web, tree, world):
    """All rows of worlds along a TREE, ascending."""
    rows = [(world,)]
    for parent, way in tree:
        rows = [(*row, there) for row in rows for there in plainly_led(web, way, row[parent])]
    return rows


def plainly_breaks(web, form, world):
    """(CLAUSE, WORLDS) of the first clause that does not hold, None without one."""
    for number, (tree, facts) in enumerate(form):
        for row in plain_world_rows(web, tree, world):
            own = zip(facts, row)
            if not any(plainly_fact_holds(web, fact, row, there) for fact, there in own):
                return number, row
    return None


def fact_by(chance, deep, many):
    """A fact over so many worlds, at most so deep."""
    if deep == 1 or chance.random() < 0.2:
        return chance.choice([("here", chance.randrange(many))] * 5 + [YES, NO, NO])
    word = chance.choice(("and", "or", "each", "some", "some"))
    if word in ("each", "some"):
        return (word, chance.choice(WAYS), fact_by(chance, deep - 1, many))
    return (word, fact_by(chance, deep - 1, many), fact_by(chance, deep - 1, many))


def tree_by(chance, many):
    """A TREE of so many pairs."""
    tree = []
    for place in range(many):
        parents = [place]
        while parents[-1] > 0:
            parents.append(tree[parents[-1] - 1][0])
        tree.append((chance.choice(parents), chance.choice(WAYS)))
    return tuple(tree)


def form_by(chance, clauses=2, branches=2, deep=3):
    """A form with at most so many clauses, of at most so many worlds beside x_0."""
    form = []
    for _ in range(chance.randint(1, clauses)):
        tree = tree_by(chance, chance.randint(0, branches))
        many = len(tree) + 1
        facts = [NO if chance.random() < 0.3 else fact_by(chance, deep, many) for _ in range(many)]
        form.append((tree, tuple(facts)))
    return tuple(form)


def tall_fact(deep, end=("here", 0)):
    """A fact so deep, of as many words."""
    for step in range(deep - 1):
        end = (("some", "each")[step % 2], step % 6 - 3, end)
    return end


def wide_fact(words):
    """A fact of so many words that is not deep."""
    if words <= 2:
        return tall_fact(words)
    first = (words - 1) // 2
    return ("or", wide_fact(first), wide_fact(words - 1 - first))


def shaped_by(chance, deep=4, letters=3):
    """A saying with no piece out of shape, perhaps with letters needed for themselves."""
    met = met_by(chance, deep, letters)
    kind = chance.randrange(3)
    if kind == 0 and met[0] == "and":
        return ("gives", met[1], turned_about(met[2]))
    return turned_about(met) if kind == 1 else ("not", met)


def met_by(chance, deep, letters):
    """What the walk may meet: not turned inward throughout, but with no piece out of shape."""
    kind = chance.randrange(9) if deep > 1 else chance.choice((0, 1))
    if kind == 0:
        return ("not", positive_by(chance, min(deep, 3), letters))
    if kind == 1:
        return box_by(chance, 1, letters)
    if kind in (2, 3):
        return ("and", met_by(chance, deep - 1, letters), met_by(chance, deep - 1, letters))
    if kind == 4:
        return ("or", met_by(chance, deep - 1, letters), met_by(chance, deep - 1, letters))
    if kind in (5, 6):
        return ("some", chance.choice(WAYS), met_by(chance, deep - 1, letters))
    if kind == 7:
        return ("each", chance.choice(WAYS), ("and", box_by(chance, deep, letters), box_by(chance, deep, letters)))
    return ("each", chance.choice(WAYS), box_by(chance, deep, letters))


def halved(word, things):
    """Things put together in their order, not deep."""
    if len(things) == 1:
        return things[0]
    half = len(things) // 2
    return (word, halved(word, things[:half]), halved(word, things[half:]))


def eaches(many, inner):
    """So many eaches, the way 0 each, and what stands beneath them."""
    for _ in range(many):
        inner = ("each", 0, inner)
    return inner


def somes(many, inner):
    """So many somes, the way 0 each, and what stands beneath them."""
    for _ in range(many):
        inner = ("some", 0, inner)
    return inner


def needs(positive, head):
    """A box of the head that needs the letters of a positive saying."""
    return ("each", 0, ("gives", positive, head))


def box_by(chance, deep, letters):
    """A box, perhaps with "gives" in the place of "or"."""
    if deep == 1:
        return ("letter", chance.randrange(letters))
    kind = chance.randrange(5)
    inner = box_by(chance, deep - 1, letters)
    if kind < 2:
        return ("each", chance.choice(WAYS), inner)
    needed = positive_by(chance, 2, letters)
    return (("gives", needed, inner), ("or", ("not", needed), inner), ("or", inner, ("not", needed)))[kind - 2]


def positive_by(chance, deep, letters):
    """A saying without not."""
    if deep == 1 or chance.random() < 0.2:
        return chance.choice([("letter", chance.randrange(letters))] * 6 + [YES, NO])
    word = chance.choice(("and", "or", "each", "some"))
    if word in ("each", "some"):
        return (word, chance.choice(WAYS), positive_by(chance, deep - 1, letters))
    return (word, positive_by(chance, deep - 1, letters), positive_by(chance, deep - 1, letters))


def plainly_term_holds(web, marking, worlds, term, world):
    """Whether a term holds at a world, as points 3 and 28 of the document tell it."""
    word = term[0]
    if word == "letter":
        return term[1] < len(marking) and world in marking[term[1]]
    if word == "here":
        return worlds[term[1]] == world
    if word in ("yes", "no"):
        return word == "yes"
    if word in ("each", "some"):
        led = plainly_led(web, term[1], world)
        found = [plainly_term_holds(web, marking, worlds, term[2], there) for there in led]
        return all(found) if word == "each" else any(found)
    first, *rest = [plainly_term_holds(web, marking, worlds, part, world) for part in term[1:]]
    if word == "not":
        return not first
    return {"and": first and rest[0], "or": first or rest[0], "gives": not first or rest[0]}[word]


def plainly_kept_lot(web, lot, marking, worlds):
    """Whether a lot is kept: in each line the second term holds wherever the first one does."""
    return all(
        not plainly_term_holds(web, marking, worlds, first, world)
        or plainly_term_holds(web, marking, worlds, second, world)
        for first, second in lot for world in range(web[0])
    )


def plain_term_letters(lot):
    """The ascending tuple of the letters in a lot."""
    return tuple(sorted(set().union(*[plain_letters(term) for line in lot for term in line])))


def some_marking_keeps(web, lot, worlds, letters=None):
    """Whether some marking, of all of the letters in the lot, keeps it."""
    letters = plain_term_letters(lot) if letters is None else letters
    for items in all_markings(web[0], len(letters)):
        marking = [()] * 8
        for letter, item in zip(letters, items):
            marking[letter] = item
        if plainly_kept_lot(web, lot, marking, worlds):
            return True
    return False


def term_by(chance, deep, letters=2, places=2):
    """A term at most so deep."""
    if deep == 1 or chance.random() < 0.15:
        letter, here = ("letter", chance.randrange(letters)), ("here", chance.randrange(places))
        return chance.choice([letter, letter, letter, here, here, YES, NO])
    word = chance.choice(("not", "and", "or", "gives", "each", "some", "each", "some"))
    if word == "not":
        return (word, term_by(chance, deep - 1, letters, places))
    if word in ("each", "some"):
        return (word, chance.choice(WAYS), term_by(chance, deep - 1, letters, places))
    return (word, term_by(chance, deep - 1, letters, places), term_by(chance, deep - 1, letters, places))


def lot_by(chance, lines=3, deep=3, letters=2, places=2):
    """A lot of at most so many lines."""
    return tuple([
        (term_by(chance, chance.randint(1, deep), letters, places), term_by(chance, deep, letters, places))
        for _ in range(chance.randint(0, lines))
    ])


def plain_words(value):
    """How many words there are in a saying, a fact or a term."""
    return 1 + sum(plain_words(part) for part in value if isinstance(part, tuple))


def plain_deep(value):
    """How deep a saying, a fact or a term is."""
    return 1 + max([plain_deep(part) for part in value if isinstance(part, tuple)], default=0)


def to_the_right(word, things):
    """Things put together by the word: S, T and U become (word, S, (word, T, U))."""
    told = things[-1]
    for thing in things[-2::-1]:
        told = (word, thing, told)
    return told
