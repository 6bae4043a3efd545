"""Facts, clauses and forms, and where they hold in a web."""

from anymarks.basics import is_number, is_tuple
from anymarks.errors import BadFact, BadForm, BadParameter, NoRow, TooGreat
from anymarks.sayings import Cases, marked_where, worlds_where
from anymarks.webs import is_way, leads_of, need_web, need_world
from anymarks.words import Walk, words_of

MOST_CLAUSES = 60
MOST_PLACES = 8
MOST_FACT_WORDS = 2000
MOST_FACT_DEEP = 100
MOST_ROWS = 5000
MOST_ROWS_AT_ONCE = 20000
NOWHERE = ("no",)


def need_fact(fact, many):
    """Return the fact over so many worlds; for any other value the first error on the walk."""
    if not is_number(many, 1, MOST_PLACES):
        raise BadParameter(many)
    path = _fact_walk().wrong_path(fact, many)
    if path is not None:
        raise BadFact(path)
    return fact


def _fact_walk():
    return Walk(0, False, MOST_FACT_DEEP, MOST_FACT_WORDS)


def need_form(form):
    """Return the form; for any other value the first error, clause by clause."""
    if not is_tuple(form, 1, MOST_CLAUSES):
        raise BadForm(())
    walk = _fact_walk()
    for number, clause in enumerate(form):
        if not _is_pair(clause):
            raise BadForm((number,))
        tree, facts = clause
        for place, branch in enumerate(tree):
            if not _is_branch(branch, tree[:place]):
                raise BadForm((number, 0, place))
        for place, fact in enumerate(facts):
            if walk.wrong_path(fact, len(facts)) is not None:
                raise BadForm((number, 1, place))
    return form


def _is_pair(value):
    """Tell whether a value is a pair of tuples of the lengths of a TREE and its FACTS."""
    if not is_tuple(value, 2, 2) or not is_tuple(value[0], 0, MOST_PLACES - 1):
        return False
    return is_tuple(value[1], len(value[0]) + 1, len(value[0]) + 1)


def _is_branch(value, tree):
    """Tell whether a value leads to the next world behind those of a TREE."""
    if not is_tuple(value, 2, 2) or not is_way(value[1]) or not is_number(value[0], 0, len(tree)):
        return False
    above = len(tree)
    while above > value[0]:
        above = tree[above - 1][0]
    return above == value[0]


def need_clause(clause):
    """Return the clause, with the errors of the form of this clause alone."""
    return need_form((clause,))[0]


def fact_worlds(web, fact, worlds):
    """Return the ascending tuple of the worlds at which the fact holds."""
    need_web(web)
    if not is_tuple(worlds, 1, MOST_PLACES):
        raise BadParameter(worlds)
    if not all([is_number(world, 0, web[0] - 1) for world in worlds]):
        raise BadParameter(worlds)
    need_fact(fact, len(worlds))
    heres = [marked_where(web, (world,)) for world in worlds]
    return worlds_where(Cases(leads_of(web), [], heres, 1).answers(fact))


def rows_at(web, clause, world):
    """Return how many rows of worlds the clause has at the world."""
    need_web(web)
    need_clause(clause)
    need_world(web, world)
    return _counts_of(leads_of(web), clause)[0][world]


def _counts_of(leads, clause):
    """Return for each world x_J of a clause the list of all worlds' numbers of rows from there.

    Such a row is of x_J and the worlds of its branch. None is gone through.
    """
    tree, facts = clause
    counts = [[1] * len(leads[0]) for _ in facts]
    # Worlds stand behind their parents: so a count is ready ahead of its parent's.
    for place, (parent, way) in list(enumerate(tree, start=1))[::-1]:
        below = counts[place]
        there = [sum([below[other] for other in row]) for row in leads[way]]
        counts[parent] = [first * second for first, second in zip(counts[parent], there)]
    return counts


class Breaking:
    """Where a form does not hold in a web, asked for at some worlds.

    All rows of a clause at one world or several are cases that are answered at once. Of
    rows with the same worlds wherever it matters the least one alone is taken.
    """

    def __init__(self, web, form, worlds):
        self.leads = leads_of(web)
        self.form = form
        self.counts = [_counts_of(self.leads, clause) for clause in form]
        if any([counts[0][world] > MOST_ROWS for counts in self.counts for world in worlds]):
            raise TooGreat(MOST_ROWS)
        self.telling = [_telling_places(clause) for clause in form]

    def first_at(self, world):
        """Return (CLAUSE, WORLDS) as breaks does, None if the form holds at the world."""
        known = {}
        for number, (_, facts) in enumerate(self.form):
            rows = self._rows_at(number, [world], known)
            left = rows.without_fact(facts)
            if left:
                return (number, rows.least_of(left))
        return None

    def unbroken(self, worlds):
        """Return the list of those of some worlds at which the form holds."""
        holding = []
        for batch in self._batches(worlds):
            holding.extend(self._unbroken_in(batch))
        return holding

    def _unbroken_in(self, batch):
        known = {}
        held = batch
        for number, (_, facts) in enumerate(self.form):
            if held:
                rows = self._rows_at(number, batch, known)
                starts = rows.starts_of(rows.without_fact(facts))
                held = [world for world in held if world not in starts]
        return held

    def _batches(self, worlds):
        """Return worlds in batches that have not too many rows in all to be answered at once."""
        batches = [[]]
        rows = 0
        for world in worlds:
            more = max([counts[0][world] for counts in self.counts])
            if rows + more > MOST_ROWS_AT_ONCE:
                batches.append([])
                rows = 0
            rows = rows + more
            batches[-1].append(world)
        return batches

    def _rows_at(self, number, worlds, known):
        """Return the rows of a clause at some worlds, known ones if there are such."""
        key = (self.form[number][0], self.telling[number])
        # Clauses of a form often have one TREE: its rows are read once for all.
        if key not in known:
            known[key] = self._read_rows(number, worlds)
        return known[key]

    def _read_rows(self, number, worlds):
        counts = self.counts[number]
        telling = self.telling[number]
        rows = [(world,) for world in worlds if counts[0][world]]
        for place, (parent, way) in enumerate(self.form[number][0], start=1):
            lead = self.leads[way]
            # Only what goes on to whole rows is taken: so there are never more than those.
            longer = [
                row + (there,) for row in rows for there in lead[row[parent]] if counts[place][there]
            ]
            rows = _told_apart(longer, telling[place])
        return WorldRows(self.leads, rows, telling[-1])


def _telling_places(clause):
    """Return for each world x_J the tuple of the numbers up to J by which rows are told apart.

    These are x_0, the worlds at which facts other than "no" are asked or that stand in
    facts, and the parents of worlds still to come.
    """
    tree, facts = clause
    if not tree:
        return ((0,),)
    asked = [place for place, fact in enumerate(facts) if fact != NOWHERE]
    words = [word for fact in facts for word in words_of(fact)]
    named = sorted({word[1] for word in words if word[0] == "here"})
    told = []
    for place in range(len(facts)):
        matter = [0] + asked + named + [parent for parent, _ in tree[place:]]
        told.append(tuple(sorted({other for other in matter if other <= place})))
    return tuple(told)


def _told_apart(rows, places):
    """Return the list of rows, of those that are alike at the places the first one alone."""
    least = {}
    for row in rows:
        least.setdefault(tuple([row[place] for place in places]), row)
    return list(least.values())


class WorldRows:
    """Some rows of worlds, ascending, a bit for each, and at the places that matter their worlds."""

    def __init__(self, leads, rows, places):
        self.leads = leads
        self.rows = rows
        size = len(leads[0])
        self.heres = [[0] * size for _ in range(MOST_PLACES)]
        for place in places:
            self.heres[place] = _bits_of(rows, place, size)

    def without_fact(self, facts):
        """Return the bits of the rows for which no fact holds at its own world."""
        left = (1 << len(self.rows)) - 1
        cases = Cases(self.leads, [], self.heres, left)
        for place, fact in enumerate(facts):
            if fact != NOWHERE and left:
                for answer, own in zip(cases.answers(fact), self.heres[place]):
                    left = left ^ (left & answer & own)
        return left

    def least_of(self, bits):
        """Return the least row of those with these bits."""
        return self.rows[(bits & -bits).bit_length() - 1]

    def starts_of(self, bits):
        """Return the list of the worlds at which the rows with these bits begin."""
        return [world for world, own in enumerate(self.heres[0]) if own & bits]


def _bits_of(rows, place, size):
    """Return for each world the bits of the rows that have it at the place."""
    bits = [0] * size
    for number, row in enumerate(rows):
        bits[row[place]] = bits[row[place]] | 1 << number
    return bits


def form_holds(web, form, world):
    """Return whether the form holds at the world."""
    return _first_breaking(web, form, world) is None


def form_worlds(web, form):
    """Return the ascending tuple of the worlds at which the form holds."""
    need_web(web)
    need_form(form)
    worlds = list(range(web[0]))
    return tuple(Breaking(web, form, worlds).unbroken(worlds))


def breaks(web, form, world):
    """Return the first clause that does not hold, and its least row for which no fact holds."""
    found = _first_breaking(web, form, world)
    if found is None:
        raise NoRow()
    return found


def _first_breaking(web, form, world):
    need_web(web)
    need_form(form)
    need_world(web, world)
    return Breaking(web, form, (world,)).first_at(world)
