"""Forms without ways back in what they ask, told by sayings without ways back."""

from anymarks.back import asking_saying
from anymarks.errors import NoForward, TooGreat
from anymarks.forms import NOWHERE, need_form
from anymarks.webs import turned_way
from anymarks.words import LETTERS


def is_forward(form):
    """Return whether all ways in the TREEs of the form are from 0 on and all facts are forward."""
    return _first_other(need_form(form)) is None


def forward_saying(form):
    """Return a saying without ways back that is kept just where the form holds."""
    place = _first_other(need_form(form))
    if place is not None:
        raise NoForward(place)
    asked = [Asked(tree, facts) for tree, facts in form]
    for clause in asked:
        clause.need_few_letters()
    return asking_saying([(clause.tree, clause.parts()) for clause in asked])


def _first_other(form):
    """Return the place of the first thing of a form that is not forward, None without one."""
    for number, (tree, facts) in enumerate(form):
        for place, (_, way) in enumerate(tree):
            if way < 0:
                return (number, 0, place)
        for place, fact in enumerate(facts):
            if not _is_forward_fact(fact):
                return (number, 1, place)
    return None


def _is_forward_fact(fact):
    waiting = [fact]
    while waiting:
        thing = waiting.pop()
        if _end_told(thing) is None:
            if thing[0] in ("each", "some") and thing[1] < 0:
                return False
            waiting.extend([part for part in thing if type(part) is tuple])
    return True


def _end_told(fact):
    """Return (J, V_1, V_2, ..) of the end some V_1 some V_2 .. here J, None of what is no end."""
    ways = []
    while fact[0] == "some" and fact[1] < 0:
        ways.append(fact[1])
        fact = fact[2]
    return (fact[1], *ways) if fact[0] == "here" else None


class Asked:
    """What a forward clause asks at its worlds: letters by boxes, and its facts with these letters."""

    def __init__(self, tree, facts):
        self.tree = tree
        # What has a letter, in the order of the letters: the ends, each as it is told.
        self.ends = {}
        self.facts = [self._lettered(fact) for fact in facts]
        named = [told[0] for told in self.ends]
        parents = [parent for parent, _ in tree]
        for place in range(len(facts)):
            if place not in named and place not in parents:
                self.ends[(place,)] = len(self.ends)

    def _lettered(self, fact):
        """Return a fact with a letter for each end, new ends being given the next letters."""
        told = _end_told(fact)
        if told is not None:
            return ("letter", self.ends.setdefault(told, len(self.ends)))
        return tuple([self._lettered(part) if type(part) is tuple else part for part in fact])

    def need_few_letters(self):
        """TooGreat(8) if more letters are wanted."""
        if len(self.ends) > LETTERS:
            raise TooGreat(LETTERS)

    def parts(self):
        """Return for each world the list of what is asked there itself."""
        asked = [[] for _ in self.facts]
        for told, letter in self.ends.items():
            asked[told[0]].append(_box(told[1:], letter))
        for place, fact in enumerate(self.facts):
            if fact != NOWHERE:
                asked[place].append(("not", fact))
        return asked


def _box(ways, letter):
    """Return the box by which the letter of the end with these ways is asked at the end's world."""
    box = ("letter", letter)
    for way in ways:
        box = ("each", turned_way(way), box)
    return box
