"""Closing forms, the arrows that they want, and the webs that come of adding these."""

from anymarks.basics import is_number, is_tuple
from anymarks.errors import BadParameter, TooGreat
from anymarks.forms import NOWHERE, need_form
from anymarks.sayings import somewhere
from anymarks.webs import FIRST_WAY, LAST_KIND, MOST_ARROWS, leads_of, need_web, turned_way


def is_closing(form):
    """Return whether each clause of the form asks for an arrow."""
    return None not in [asked_arrow(clause) for clause in need_form(form)]


def asked_arrow(clause):
    """Return (KIND, I, K) if the clause asks for an arrow of the kind from x_I to x_K, else None."""
    asked = [(place, fact) for place, fact in enumerate(clause[1]) if fact != NOWHERE]
    if len(asked) != 1:
        return None
    place, fact = asked[0]
    if fact[0] != "some" or fact[2][0] != "here":
        return None
    way, other = fact[1], fact[2][1]
    return (way, place, other) if way >= 0 else (turned_way(way), other, place)


def _need_closing(form):
    if not is_closing(form):
        raise BadParameter(form)


def added(web, form):
    """Return the ascending tuple of the arrows that are wanted and are not there."""
    need_web(web)
    _need_closing(form)
    return tuple(sorted(_arrows_of(Growing(web, form).wanted())))


def is_closed(web, form):
    """Return whether no arrow is wanted that is not there."""
    need_web(web)
    _need_closing(form)
    return not Growing(web, form).wanted()


def closed_web(web, form):
    """Return the web that comes of adding wanted arrows as long as there are any."""
    need_web(web)
    _need_closing(form)
    growing = Growing(web, form)
    wanted = growing.wanted()
    while wanted:
        growing.grow(growing.need_few(wanted))
        wanted = growing.wanted()
    return growing.web()


def closing_paper(web, form):
    """Return the tuple of pairs (CLAUSE, WORLDS), one for each arrow that closed_web adds."""
    need_web(web)
    _need_closing(form)
    growing = Growing(web, form)
    paper = []
    wanted = growing.wanted()
    while wanted:
        arrows = growing.need_few(wanted)
        reasons = growing.reasons(wanted)
        paper.extend([reasons[arrow] for arrow in sorted(arrows)])
        growing.grow(arrows)
        wanted = growing.wanted()
    return tuple(paper)


def _arrows_of(wanted):
    """Return the list of the arrows of some (CLAUSE, KIND, FROM, BITS), a bit for each world TO."""
    return [(kind, start, end) for _, kind, start, bits in wanted for end in _places_of(bits)]


def _places_of(bits):
    """Return the list of the places of the bits of a number."""
    places = []
    while bits:
        low = bits & -bits
        places.append(low.bit_length() - 1)
        bits = bits ^ low
    return places


class Growing:
    """A web that grows, and what a closing form wants in it."""

    def __init__(self, web, form):
        self.size = web[0]
        self.form = form
        self.arrows = []
        self.leads = leads_of((self.size, ()))
        self.there = [[0] * self.size for _ in range(LAST_KIND + 1)]
        self.asked = [asked_arrow(clause) for clause in form]
        self.branches = [
            Branch(clause[0], start, None, end, self.size)
            for clause, (_, start, end) in zip(form, self.asked)
        ]
        self.grow(web[1])
        # For each clause the worlds x_I from which arrows may be wanted that were not ahead.
        self.changed = [list(range(self.size)) for _ in form]

    def web(self):
        """Return the web."""
        return (self.size, tuple(sorted(self.arrows)))

    def grow(self, arrows):
        """Take in new arrows."""
        pairs = {way: [] for way in range(FIRST_WAY, LAST_KIND + 1)}
        for kind, start, end in arrows:
            pairs[kind].append((start, end))
            pairs[turned_way(kind)].append((end, start))
            self.leads[kind][start].append(end)
            self.leads[turned_way(kind)][end].append(start)
            self.there[kind][start] = self.there[kind][start] | 1 << end
        self.arrows.extend(arrows)
        self.changed = [branch.learn(self.leads, pairs) for branch in self.branches]

    def wanted(self):
        """Return the list of (CLAUSE, KIND, FROM, BITS): what the clause is the first one to want.

        BITS has a bit for each world TO. No row of worlds is gone through.
        """
        taken = [list(rows) for rows in self.there]
        found = []
        for number, (kind, _, _) in enumerate(self.asked):
            there = self.branches[number].bits
            for start in self.changed[number]:
                bits = there[start] & ~taken[kind][start]
                if bits:
                    taken[kind][start] = taken[kind][start] | bits
                    found.append((number, kind, start, bits))
        return found

    def need_few(self, wanted):
        """Return the list of the wanted arrows; TooGreat(1000) if the web had too many with them."""
        many = sum([f"{bits:b}".count("1") for _, _, _, bits in wanted])
        if len(self.arrows) + many > MOST_ARROWS:
            raise TooGreat(MOST_ARROWS)
        return _arrows_of(wanted)

    def reasons(self, wanted):
        """Return for each wanted arrow the pair (CLAUSE, WORLDS) of its clause and the least row."""
        told = {}
        for number in sorted({clause for clause, _, _, _ in wanted}):
            arrows = _arrows_of([one for one in wanted if one[0] == number])
            rows = self._least_rows(number, arrows)
            for arrow, row in zip(arrows, rows):
                told[arrow] = (number, row)
        return told

    def _least_rows(self, number, arrows):
        """Return for each of some arrows that a clause wants its least row that does so."""
        tree, facts = self.form[number]
        _, start, end = self.asked[number]
        # A bit for each arrow: whether rows that want it go on from a world.
        fits = [[(1 << len(arrows)) - 1] * self.size for _ in facts]
        for place, side in ((start, 1), (end, 2)):
            own = [0] * self.size
            for case, arrow in enumerate(arrows):
                own[arrow[side]] = own[arrow[side]] | 1 << case
            fits[place] = [here & other for here, other in zip(fits[place], own)]
        # Worlds stand behind their parents: so they are ready ahead of these.
        for place, (parent, way) in list(enumerate(tree, start=1))[::-1]:
            there = somewhere(self.leads[way], fits[place])
            fits[parent] = [here & other for here, other in zip(fits[parent], there)]
        return [self._least_row(tree, fits, case) for case in range(len(arrows))]

    def _least_row(self, tree, fits, case):
        row = [min([world for world in range(self.size) if fits[0][world] >> case & 1])]
        for place, (parent, way) in enumerate(tree, start=1):
            there = self.leads[way][row[parent]]
            row.append(min([world for world in there if fits[place][world] >> case & 1]))
        return tuple(row)


class Branch:
    """A world x_J of a clause, with all worlds that hang on it but for those behind.

    bits has for each world, as x_J, the bits of the worlds x_END with which rows of all of
    these go on; if x_END is among those behind, all bits or none.
    """

    def __init__(self, tree, place, behind, end, size):
        full = (1 << size) - 1
        self.own = [1 << world if place == end else full for world in range(size)]
        self.inner = [
            (way, Branch(tree, other, place, end, size), [0] * size)
            for other, way in _neighbours(tree, place) if other != behind
        ]
        self.bits = [0] * size if self.inner else list(self.own)

    def learn(self, leads, pairs):
        """Take in new arrows, pairs (FROM, TO) for each way; return the list of worlds with more bits."""
        touched = {}
        for way, branch, led in self.inner:
            changed = branch.learn(leads, pairs)
            further = [(start, end) for end in changed for start in leads[turned_way(way)][end]]
            for start, end in pairs[way] + further:
                more = led[start] | branch.bits[end]
                if more != led[start]:
                    led[start] = more
                    touched[start] = True
        return [world for world in touched if self._gains(world)]

    def _gains(self, world):
        found = self.own[world]
        for _, _, led in self.inner:
            found = found & led[world]
        if found == self.bits[world]:
            return False
        self.bits[world] = found
        return True


def _neighbours(tree, place):
    """Return the list of the pairs (world, way) of the worlds beside one in a TREE."""
    found = [(child, way) for child, (parent, way) in enumerate(tree, start=1) if parent == place]
    if place:
        parent, way = tree[place - 1]
        found.append((parent, turned_way(way)))
    return found


def is_closing_paper(web, form, goal, value):
    """Return whether the value is a paper by which the form closes the web to the goal."""
    need_web(web)
    _need_closing(form)
    need_web(goal)
    if not is_tuple(value, 0, MOST_ARROWS):
        return False
    there = {arrow: True for arrow in web[1]}
    for step in value:
        arrow = _arrow_by(web[0], form, there, step)
        if arrow is None or arrow in there:
            return False
        there[arrow] = True
    return (web[0], tuple(sorted(there))) == goal and not Growing(goal, form).wanted()


def _arrow_by(size, form, there, step):
    """Return the arrow that a pair of a paper wants, None if it is no such pair."""
    if not is_tuple(step, 2, 2) or not is_number(step[0], 0, len(form) - 1):
        return None
    tree, facts = form[step[0]]
    worlds = step[1]
    if not is_tuple(worlds, len(facts), len(facts)):
        return None
    if not all([is_number(world, 0, size - 1) for world in worlds]):
        return None
    for place, (parent, way) in enumerate(tree, start=1):
        if _arrow_along(way, worlds[parent], worlds[place]) not in there:
            return None
    kind, start, end = asked_arrow(form[step[0]])
    return (kind, worlds[start], worlds[end])


def _arrow_along(way, start, end):
    """Return the arrow by which a way leads from one world to another."""
    return (way, start, end) if way >= 0 else (turned_way(way), end, start)
