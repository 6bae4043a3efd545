"""Webs whose arrows go through, and sayings that are pictures of them."""

from anymarks.errors import BadParameter, NoRow, TooGreat
from anymarks.folds import Folding, classes_of, need_few_maps
from anymarks.parts import closed_part, put_beside
from anymarks.webs import leads_of, need_web, need_world
from anymarks.words import joined

MOST_PICTURED = 4


def goes_through(web):
    """Return whether all arrows are of the kind 0 and go through."""
    need_web(web)
    if any([kind > 0 for kind, _, _ in web[1]]):
        return False
    there = _reach_of(web)
    return not any([there[end] & ~there[start] for _, start, end in web[1]])


def _reach_of(web):
    """Return for each world the bits of the worlds led to from it."""
    there = [0] * web[0]
    for _, start, end in web[1]:
        there[start] = there[start] | 1 << end
    return there


def need_through(web):
    """Return the web, all arrows of which go through."""
    if not goes_through(web):
        raise BadParameter(web)
    return web


def need_rooted(web):
    """Return the web, all arrows of which go through, and of which 0 is a root."""
    if 0 not in _roots_of(need_through(web)):
        raise BadParameter(web)
    return web


def _roots_of(web):
    """Return the list of the worlds from which all other worlds are led to."""
    full = (1 << web[0]) - 1
    return [world for world, there in enumerate(_reach_of(web)) if there | 1 << world == full]


def root_of(web):
    """Return the least root of the web."""
    roots = _roots_of(need_through(web))
    if not roots:
        raise NoRow()
    return roots[0]


def part_from(web, world):
    """Return the part of the world, which is 0 in it, and of all worlds led to from it."""
    need_through(web)
    need_world(web, world)
    leads = leads_of(web)
    return closed_part(leads, rooted_worlds(leads[0][world], world))


def rooted_worlds(row, world):
    """Return the list of a world and of all other worlds led to from it, in their order."""
    return [world] + [other for other in row if other != world]


def picture(web):
    """Return the saying that fails where a part folds onto the web, of which 0 is a root."""
    size, _ = need_rooted(web)
    if size > MOST_PICTURED:
        raise TooGreat(MOST_PICTURED)
    there = _reach_of(web)
    letters = [("letter", world) for world in range(size)]
    parts = [joined("or", letters)]
    for world, letter in enumerate(letters):
        parts.extend([("gives", letter, ("not", other)) for other in letters[world + 1:]])
    for world, letter in enumerate(letters):
        for place, other in enumerate(letters):
            leads = there[world] >> place & 1
            parts.append(("gives", letter, ("some", 0, other) if leads else ("each", 0, ("not", other))))
    told = joined("and", parts)
    return ("not", ("and", letters[0], ("and", told, ("each", 0, told))))


def is_pictured(web, world, image):
    """Return whether the part from the world folds onto the image, of which 0 is a root."""
    need_through(web)
    need_world(web, world)
    need_rooted(image)
    part = part_from(web, world)
    need_few_maps(part[0], image[0])
    classes = classes_of(leads_of(put_beside((part, image))), [0])
    return folds_onto(part, image, classes)


def folds_onto(part, image, classes):
    """Tell whether a part folds onto an image, 0 being a root of both."""
    if classes[0] != classes[part[0]]:
        return False
    # If there is a fold, there is one that leads the root 0 to the image's world 0.
    return len(Folding(part, image, [0], classes).folds([(0,)], 1)) > 0
