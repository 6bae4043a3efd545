"""Webs made of webs: parts that are closed, and webs side by side."""

from anymarks.basics import is_number, is_tuple
from anymarks.errors import BadParameter, TooGreat
from anymarks.webs import (
    FIRST_WAY, LAST_KIND, MOST_ARROWS, MOST_WORLDS, are_worlds, leads_of, need_web,
)

MOST_WEBS = 60


def need_both(both):
    """BadParameter unless both is True or False."""
    if both is not True and both is not False:
        raise BadParameter(both)


def ways_of(both):
    """Return the list of the ways that count, of one direction or of both."""
    return list(range(FIRST_WAY if both else 0, LAST_KIND + 1))


def closed_from(web, worlds, both):
    """Return the ascending tuple of the fewest worlds that are closed and have these among them."""
    size = need_web(web)[0]
    if not is_tuple(worlds, 0, MOST_WORLDS) or not all([is_number(world, 0, size - 1) for world in worlds]):
        raise BadParameter(worlds)
    need_both(both)
    leads = leads_of(web)
    reached = [False] * size
    waiting = list(worlds)
    while waiting:
        world = waiting.pop()
        if not reached[world]:
            reached[world] = True
            for way in ways_of(both):
                waiting.extend(leads[way][world])
    return tuple([world for world in range(size) if reached[world]])


def part_of(web, worlds):
    """Return the web of these worlds, which are closed, and of all arrows between them."""
    need_web(web)
    if not are_worlds(web, worlds) or not worlds or not _are_closed(web, worlds):
        raise BadParameter(worlds)
    return closed_part(leads_of(web), worlds)


def _are_closed(web, worlds):
    inside = {world: True for world in worlds}
    return all([end in inside for _, start, end in web[1] if start in inside])


def closed_part(leads, worlds):
    """Return the web of some closed worlds, its world I being worlds[I], by where all worlds lead."""
    numbers = {world: number for number, world in enumerate(worlds)}
    arrows = [
        (kind, numbers[start], numbers[end])
        for kind in range(LAST_KIND + 1) for start in worlds for end in leads[kind][start]
    ]
    return (len(worlds), tuple(sorted(arrows)))


def beside(webs):
    """Return one web of several, the worlds of each next one numbered on."""
    if not is_tuple(webs, 1, MOST_WEBS):
        raise BadParameter(webs)
    for web in webs:
        need_web(web)
    if sum([size for size, _ in webs]) > MOST_WORLDS:
        raise TooGreat(MOST_WORLDS)
    if sum([len(arrows) for _, arrows in webs]) > MOST_ARROWS:
        raise TooGreat(MOST_ARROWS)
    return put_beside(webs)


def put_beside(webs):
    """Return one web of several, however great."""
    ahead = 0
    found = []
    for size, arrows in webs:
        found.extend([(kind, ahead + start, ahead + end) for kind, start, end in arrows])
        ahead = ahead + size
    return (ahead, tuple(sorted(found)))
