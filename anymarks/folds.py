"""Folds of webs onto others, and the least image of a web."""

from anymarks.basics import is_number, is_tuple
from anymarks.errors import TooGreat
from anymarks.parts import need_both, put_beside, ways_of
from anymarks.webs import leads_of, need_web, turned_way

MOST_MAPS = 5000


def is_fold(web, image, both, value):
    """Return whether the value is a fold of the web onto the image."""
    need_web(web)
    need_web(image)
    need_both(both)
    if not is_tuple(value, web[0], web[0]):
        return False
    if not all([is_number(world, 0, image[0] - 1) for world in value]):
        return False
    return _is_onto(image[0], value) and _leads_alike(web, image, ways_of(both), value)


def _is_onto(size, value):
    return len(set(value)) == size


def _leads_alike(web, image, ways, value):
    """Tell whether in the image each world's own leads just to those of the worlds led to from it."""
    leads = leads_of(web)
    own = leads_of(image)
    for way in ways:
        there = [_bits_of(row) for row in own[way]]
        for world, row in enumerate(leads[way]):
            if _bits_of([value[other] for other in row]) != there[value[world]]:
                return False
    return True


def _bits_of(numbers):
    bits = 0
    for number in numbers:
        bits = bits | 1 << number
    return bits


def all_folds(web, image, both):
    """Return the ascending tuple of all folds of the web onto the image."""
    need_web(web)
    need_web(image)
    need_both(both)
    need_few_maps(web[0], image[0])
    ways = ways_of(both)
    classes = classes_of(leads_of(put_beside((web, image))), ways)
    return tuple(Folding(web, image, ways, classes).folds([()], MOST_MAPS))


def need_few_maps(size, image_size):
    """TooGreat(5000) if there are more maps of so many worlds to those of an image."""
    maps = 1
    for _ in range(size):
        maps = maps * image_size
        if maps > MOST_MAPS:
            raise TooGreat(MOST_MAPS)


class Folding:
    """The folds of a web onto an image, looked for world by world.

    classes are those of the worlds of both, side by side: a fold leads each world to one
    of its own class.
    """

    def __init__(self, web, image, ways, classes):
        self.size = web[0]
        self.image_size = image[0]
        self.ways = ways
        self.leads = leads_of(web)
        self.image_leads = leads_of(image)
        self.there = {way: [_bits_of(row) for row in self.image_leads[way]] for way in ways}
        own = classes[self.size:]
        self.choices = [self._choices(world, number, own) for world, number in enumerate(classes[:self.size])]
        # What can be asked as soon as a world has its own one: the arrows whose later world
        # it is, and the worlds of which it is the last one that is led to.
        self.arrows = [[] for _ in range(self.size)]
        self.last = [[] for _ in range(self.size)]
        for way in ways:
            for world, row in enumerate(self.leads[way]):
                self.last[max([world, *row])].append((way, world))
                for other in row:
                    self.arrows[max(world, other)].append((way, world, other))

    def _choices(self, world, number, own):
        """Return the list of the worlds of the image of a class that lead to no more worlds than this one."""
        return [there for there, other in enumerate(own) if other == number and self._has_enough(world, there)]

    def _has_enough(self, world, there):
        return all([len(self.leads[way][world]) >= len(self.image_leads[way][there]) for way in self.ways])

    def folds(self, begun, most):
        """Return the list of the first folds, ascending, that begin as begun, at most so many."""
        found = []
        waiting = list(begun) if [] not in self.choices else []
        while waiting and len(found) < most:
            told = waiting.pop()
            if len(told) < self.size:
                further = [told + (there,) for there in self.choices[len(told)]]
                # The last one that waits is gone on with next: so the least is found first.
                waiting.extend([longer for longer in further[::-1] if self._fits(longer)])
            elif _is_onto(self.image_size, told):
                found.append(told)
        return found

    def _fits(self, told):
        """Tell whether what begins as a fold still does with its last world."""
        place = len(told) - 1
        for way, world, other in self.arrows[place]:
            if not self.there[way][told[world]] >> told[other] & 1:
                return False
        for way, world in self.last[place]:
            if _bits_of([told[other] for other in self.leads[way][world]]) != self.there[way][told[world]]:
                return False
        return True


def least_image(web, both):
    """Return (IMAGE, FOLD): the fold that leads together all that any fold does, and its image."""
    size, arrows = need_web(web)
    need_both(both)
    numbers = {}
    fold = [numbers.setdefault(own, len(numbers)) for own in classes_of(leads_of(web), ways_of(both))]
    led = {(kind, fold[start], fold[end]): True for kind, start, end in arrows}
    return ((len(numbers), tuple(sorted(led))), tuple(fold))


def classes_of(leads, ways):
    """Return for each world the number of its class: of all worlds that some fold leads together."""
    parting = Parting(leads, ways)
    touched = list(range(len(leads[0])))
    while touched:
        changed = parting.part(touched)
        touched = list({world: True for way in ways for other in changed for world in leads[turned_way(way)][other]})
    return parting.classes


class Parting:
    """Classes of worlds that are parted as long as worlds of one class lead to others.

    All worlds begin in one class. Only worlds that lead to one whose class is a new one
    need to be asked again: so a long line is not gone through for each of its worlds.
    """

    def __init__(self, leads, ways):
        self.rows = [leads[way] for way in ways]
        self.classes = [0] * len(leads[0])
        self.sizes = [len(leads[0])]

    def part(self, touched):
        """Part the classes of the touched worlds; return the list of all with a new class."""
        groups = {}
        for world in touched:
            seen = [_bits_of([self.classes[other] for other in rows[world]]) for rows in self.rows]
            groups.setdefault((self.classes[world], *seen), []).append(world)
        parted = {}
        for key, group in groups.items():
            parted.setdefault(key[0], []).append(group)
        changed = []
        for number, found in parted.items():
            for group in self._leaving(number, found):
                self.sizes[number] = self.sizes[number] - len(group)
                for world in group:
                    self.classes[world] = len(self.sizes)
                self.sizes.append(len(group))
                changed.extend(group)
        return changed

    def _leaving(self, number, groups):
        """Return those of the touched groups of a class that leave it.

        Those that are not touched stay; without such the greatest group does.
        """
        if sum([len(group) for group in groups]) < self.sizes[number]:
            return groups
        return sorted(groups, key=len)[:-1]
