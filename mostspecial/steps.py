"""Sorts of uses: what the uses of a sort come to, and what they ask."""

from mostspecial.apart import check_view
from mostspecial.errors import InvalidSort, InvalidUse
from mostspecial.groups import groups_of
from mostspecial.scopes import scope_of


def sort_of(library, k, generic, terms):
    """The sort of a use of a view."""
    check_view(library, k)
    scope = scope_of(library, k)
    if not scope.is_use(generic, terms):
        raise InvalidUse((generic, terms))
    return scope.sort_of(generic, terms)


def is_sort(library, k, value):
    """Whether a value is the sort of a use of a view."""
    check_view(library, k)
    return scope_of(library, k).is_sort(value)


def outcomes(library, k, sort):
    """The marks of the choices of the uses of a sort, whether one has no taker, and whether one has takers alone."""
    check_view(library, k)
    if not scope_of(library, k).is_sort(sort):
        raise InvalidSort(sort)
    groups = groups_of(library, k).groups_for(sort)
    marks = sorted(set([group.chosen.mark for group in groups if group.chosen is not None]))
    none = any([not group.taken_by for group in groups])
    two = any([group.chosen is None and bool(group.taken_by) for group in groups])
    return tuple(marks), none, two


def asks(library, k, sort):
    """What the uses of a sort ask."""
    check_view(library, k)
    if not scope_of(library, k).is_sort(sort):
        raise InvalidSort(sort)
    return list(groups_of(library, k).asks_for(sort))
