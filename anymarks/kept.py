"""What is kept, by trying: all markings of the letters in a saying are gone through."""

from anymarks.errors import NoRow, TooGreat
from anymarks.sayings import Cases, letters_in, need_saying
from anymarks.webs import leads_of, need_web, need_world
from anymarks.words import LETTERS

MOST_MARKS = 12


class Trial:
    """A saying under all markings of its letters in a web.

    The markings are numbered: a bit of their numbers for each letter at each world.
    So all of them are cases that are answered at once.
    """

    def __init__(self, web, saying):
        self.size = web[0]
        self.letters = letters_in(saying)
        self.bits = len(self.letters) * self.size
        if self.bits > MOST_MARKS:
            raise TooGreat(MOST_MARKS)
        self.full = (1 << (1 << self.bits)) - 1
        marks = [[]] * LETTERS
        for letter in self.letters:
            marks[letter] = [self._marked(letter, world) for world in range(self.size)]
        self.found = Cases(leads_of(web), marks, [], self.full).answers(saying)

    def _bit(self, letter, world):
        return self.letters.index(letter) * self.size + world

    def _marked(self, letter, world):
        """Return in which of all cases the letter holds at the world."""
        run = 1 << self._bit(letter, world)
        # By turns as long a run of cases without the bit and one with it.
        return self.full ^ self.full // ((1 << run) + 1)

    def failing_markings(self, world):
        """Return the list of all markings under which the saying does not hold at the world."""
        failing = self.full ^ self.found[world]
        return [self._marking(number) for number in range(1 << self.bits) if failing >> number & 1]

    def _marking(self, number):
        items = [()] * (max(self.letters, default=-1) + 1)
        for letter in self.letters:
            items[letter] = tuple([
                world for world in range(self.size) if number >> self._bit(letter, world) & 1
            ])
        return tuple(items)


def tried(web, saying):
    """Return the ascending tuple of the worlds at which the saying is kept."""
    need_web(web)
    need_saying(saying)
    trial = Trial(web, saying)
    return tuple([world for world, answer in enumerate(trial.found) if answer == trial.full])


def is_kept(web, saying, world):
    """Return whether the saying is kept at the world."""
    trial = _trial_at(web, saying, world)
    return trial.found[world] == trial.full


def fails_by(web, saying, world):
    """Return the least marking under which the saying does not hold at the world."""
    markings = _trial_at(web, saying, world).failing_markings(world)
    if not markings:
        raise NoRow()
    return min(markings)


def _trial_at(web, saying, world):
    need_web(web)
    need_saying(saying)
    need_world(web, world)
    return Trial(web, saying)
