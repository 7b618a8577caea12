"""Meets of patterns."""

from mostspecial.joins import Joins
from mostspecial.matches import kind_of, renamed
from mostspecial.progressions import common


def meet_forms(one, other):
    """The tuple (a, b) for the numbers that two such tuples both stand for, or None."""
    return common(one, other)


def meet(p, q):
    """The meet of two patterns, renamed, or None if no use is taken by both."""
    return meet_all((p, q))


def meet_all(patterns):
    """The pattern that takes just those uses that all patterns take, renamed, or None if there are none."""
    first = patterns[0]
    kinds = [kind_of(term) for term in first]
    joins = Joins()
    places = joins.laid(first)
    for pattern in patterns[1:]:
        if [kind_of(term) for term in pattern] != kinds:
            return None
        joins.unite(places, joins.laid(pattern))
    terms = joins.results(places)
    return None if terms is None else renamed(terms)
