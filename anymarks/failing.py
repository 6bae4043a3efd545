"""The least marking under which a saying fails, told without trying any."""

from anymarks.errors import BadMarking
from anymarks.forms import breaks
from anymarks.sayings import (
    Cases, holds, letters_in, marked_where, need_marking, need_saying, worlds_where,
)
from anymarks.there import readings_of
from anymarks.webs import leads_of, need_web, need_world
from anymarks.words import LETTERS


def failing(web, saying, world):
    """Return (CLAUSE, WORLDS, MARKING) that tell how the saying fails at the world."""
    _need_all(web, saying, world)
    readings = readings_of(saying)
    form = tuple([reading.clause() for reading in readings])
    clause, worlds = breaks(web, form, world)
    return (clause, worlds, _least_marking(web, saying, readings[clause], worlds))


def _need_all(web, saying, world):
    need_web(web)
    need_saying(saying)
    need_world(web, world)


def _least_marking(web, saying, reading, worlds):
    """Return the least marking under which the boxes of a row of choices hold at their worlds."""
    leads = leads_of(web)
    heres = [marked_where(web, (world,)) for world in worlds]
    marks = [marked_where(web, ()) for _ in range(LETTERS)]
    # What a letter becomes may be too great to be told: so it is asked with letters marked.
    for letter in reading.order:
        cases = Cases(leads, marks, heres, 1)
        found = [world for one in reading.letters[letter] for world in worlds_where(cases.answers(one))]
        marks[letter] = marked_where(web, found)
    many = max(letters_in(saying), default=-1) + 1
    return tuple([worlds_where(marks[letter]) for letter in range(many)])


def is_failing(web, saying, world, value):
    """Return whether the value is a marking under which the saying does not hold at the world."""
    _need_all(web, saying, world)
    try:
        need_marking(web, value)
    except BadMarking:
        return False
    return not holds(web, value, saying, world)
