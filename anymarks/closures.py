"""Closures of webs whose arrows go through, and sayings that tell webs outside."""

from anymarks.basics import is_tuple
from anymarks.errors import BadParameter, NoRow
from anymarks.folds import classes_of, need_few_maps
from anymarks.parts import closed_part, put_beside
from anymarks.pictures import folds_onto, need_through, picture, rooted_worlds
from anymarks.webs import leads_of

MOST_LISTED = 12


def in_closure(webs, web):
    """Return whether the web is in the closure of the webs."""
    return _need_search(webs, web).outside() is None


def telling(webs, web):
    """Return a saying that is kept in all webs of the closure, and fails in the web, which is outside."""
    part = _need_search(webs, web).outside()
    if part is None:
        raise NoRow()
    return picture(part)


def _need_search(webs, web):
    if not is_tuple(webs, 1, MOST_LISTED):
        raise BadParameter(webs)
    for item in webs:
        need_through(item)
    need_through(web)
    return Search(webs, web)


class Search:
    """Parts from the worlds of a web, looked for among the images of parts from those of a list.

    All webs are put side by side, the one that is asked for behind those of the list.
    """

    def __init__(self, webs, web):
        self.whole = put_beside((*webs, web))
        self.first = self.whole[0] - web[0]
        self.leads = leads_of(self.whole)
        self.worlds = [rooted_worlds(row, world) for world, row in enumerate(self.leads[0])]
        self._need_few_maps()
        self.classes = classes_of(self.leads, [0])
        self.known = {}

    def _need_few_maps(self):
        sizes = [len(worlds) for worlds in self.worlds]
        for own in sorted(set(sizes[self.first:])):
            for listed in sorted(set(sizes[:self.first])):
                if listed >= own:
                    need_few_maps(listed, own)

    def outside(self):
        """Return the part from the least world onto whose part no listed one folds, None without one."""
        told = {}
        for world in range(self.first, self.whole[0]):
            part = self._part(world)
            if part not in told:
                told[part] = self._is_image(world, part)
            if not told[part]:
                return part
        return None

    def _part(self, world):
        """Return the part from a world as a web of its own."""
        return closed_part(self.leads, self.worlds[world])

    def _is_image(self, world, image):
        """Tell whether some listed part folds onto the part from a world."""
        classes = self._classes_in(world)
        for part, own in self._listed(self.classes[world]):
            if part[0] >= image[0] and folds_onto(part, image, own + classes):
                return True
        return False

    def _listed(self, number):
        """Return the pairs (part, classes) of the unlike parts from the listed worlds of a class."""
        if number not in self.known:
            worlds = [world for world in range(self.first) if self.classes[world] == number]
            self.known[number] = {self._part(world): self._classes_in(world) for world in worlds}
        return list(self.known[number].items())

    def _classes_in(self, world):
        return [self.classes[other] for other in self.worlds[world]]
