"""Webs: worlds, arrows of three kinds, and where the six ways lead."""

from anymarks.basics import are_numbers, is_ascending, is_number, is_tuple
from anymarks.errors import BadParameter, BadWay, BadWeb, BadWorld

MOST_WORLDS = 200
MOST_ARROWS = 1000
LAST_KIND = 2
FIRST_WAY = -3


def need_web(web):
    """Return the web; BadWeb for any other value."""
    if not _is_web(web):
        raise BadWeb(web)
    return web


def _is_web(value):
    if not is_tuple(value, 2, 2):
        return False
    size, arrows = value
    if not is_number(size, 1, MOST_WORLDS) or not is_tuple(arrows, 0, MOST_ARROWS):
        return False
    return all([_is_arrow(arrow, size) for arrow in arrows]) and is_ascending(arrows)


def _is_arrow(value, size):
    if not is_tuple(value, 3, 3):
        return False
    kind, start, end = value
    if not is_number(kind, 0, LAST_KIND):
        return False
    return is_number(start, 0, size - 1) and is_number(end, 0, size - 1)


def is_way(value):
    """Tell whether the value is a way."""
    return is_number(value, FIRST_WAY, LAST_KIND)


def turned_way(way):
    """Return the way turned."""
    return -1 - way


def need_world(web, world):
    """Return the world of a web; BadWorld for any other value."""
    if not is_number(world, 0, web[0] - 1):
        raise BadWorld(world)
    return world


def are_worlds(web, value):
    """Tell whether the value is an ascending tuple of unlike worlds of a web."""
    size = web[0]
    if not is_tuple(value, 0, size):
        return False
    return all([is_number(world, 0, size - 1) for world in value]) and is_ascending(value)


def leads_of(web):
    """Return for each way the list of all worlds' lists of worlds led to, ascending."""
    size, arrows = web
    leads = {way: [[] for _ in range(size)] for way in range(FIRST_WAY, LAST_KIND + 1)}
    for kind, start, end in arrows:
        leads[kind][start].append(end)
        leads[turned_way(kind)][end].append(start)
    return leads


def led_to(web, way, world):
    """Return the ascending tuple of the worlds led to from the world by the way."""
    need_web(web)
    if not is_way(way):
        raise BadWay(way)
    need_world(web, world)
    return tuple(leads_of(web)[way][world])


def web_turned(web):
    """Return the web in which each arrow goes from its end to its beginning."""
    size, arrows = need_web(web)
    return (size, tuple(sorted([(kind, end, start) for kind, start, end in arrows])))


def kinds_changed(web, kinds):
    """Return the web in which each arrow of the kind K has the kind kinds[K]."""
    size, arrows = need_web(web)
    if not are_numbers(kinds, 3, 0, LAST_KIND):
        raise BadParameter(kinds)
    return (size, tuple(sorted({(kinds[kind], start, end) for kind, start, end in arrows})))
