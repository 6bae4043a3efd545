"""Forms made of forms: both, either, and under a way."""

from anymarks.errors import BadWay, TooGreat
from anymarks.forms import MOST_CLAUSES, MOST_FACT_DEEP, MOST_FACT_WORDS, MOST_PLACES, NOWHERE, need_form
from anymarks.webs import is_way
from anymarks.words import deep_of, replaced, words_of


def both_forms(form, other):
    """Return the form of the clauses of both."""
    need_form(form)
    need_form(other)
    if len(form) + len(other) > MOST_CLAUSES:
        raise TooGreat(MOST_CLAUSES)
    _need_few_words(sum([_words_in(clause) for clause in form + other]))
    return form + other


def _words_in(clause):
    return sum([len(words_of(fact)) for fact in clause[1]])


def _need_few_words(words):
    if words > MOST_FACT_WORDS:
        raise TooGreat(MOST_FACT_WORDS)


def either_forms(form, other):
    """Return the form that holds where one or the other does."""
    need_form(form)
    need_form(other)
    if len(form) * len(other) > MOST_CLAUSES:
        raise TooGreat(MOST_CLAUSES)
    pairs = [(first, second) for first in form for second in other]
    if any([len(first[1]) + len(second[0]) > MOST_PLACES for first, second in pairs]):
        raise TooGreat(MOST_PLACES)
    _need_few_words(sum([_words_of_either(first, second) for first, second in pairs]))
    for first, second in pairs:
        # The facts of all other worlds are as deep as they were.
        if deep_of(_either_fact(first[1][0], second[1][0])) > MOST_FACT_DEEP:
            raise TooGreat(MOST_FACT_DEEP)
    return tuple([_either(first, second) for first, second in pairs])


def _words_of_either(first, second):
    words = _words_in(first) + _words_in(second)
    # At x_0 an "or" is put ahead of both facts, or a "no" is left out.
    return words - 1 if NOWHERE in (first[1][0], second[1][0]) else words + 1


def _either_fact(fact, other):
    if fact == NOWHERE:
        return other
    if other == NOWHERE:
        return fact
    return ("or", fact, other)


def _either(clause, other):
    tree, facts = clause
    places = [0] + [len(facts) + step for step in range(len(other[0]))]
    further, others = _renumbered(other, places)
    start = _either_fact(facts[0], others[0])
    return (tree + further, (start,) + facts[1:] + others[1:])


def _renumbered(clause, places):
    """Return TREE and FACTS of a clause whose world x_J has the number places[J] now."""
    tree, facts = clause
    heres = [("here", place) for place in places]
    branches = tuple([(places[parent], way) for parent, way in tree])
    return (branches, tuple([replaced(fact, "here", heres) for fact in facts]))


def under_way(way, form):
    """Return the form that holds where the form holds at each world led to by the way."""
    if not is_way(way):
        raise BadWay(way)
    need_form(form)
    if any([len(facts) == MOST_PLACES for _, facts in form]):
        raise TooGreat(MOST_PLACES)
    _need_few_words(sum([1 + _words_in(clause) for clause in form]))
    moved = [_renumbered(clause, list(range(1, MOST_PLACES))) for clause in form]
    return tuple([(((0, way),) + tree, (NOWHERE,) + facts) for tree, facts in moved])
