"""Two views of a library: the uses that are of both, and their choices in each."""

from mostspecial.groups import Groups
from mostspecial.scopes import Scope


class Pair:
    """Two views, with those generics of both which have other definitions in one of them than in the other."""

    def __init__(self, library, k, j):
        self.marks = [{row.mark: True for row in library.definitions_of(view)} for view in (k, j)]
        one, other = self.marks
        unlike = {row.generic: True for row in library.definitions if (row.mark in one) != (row.mark in other)}
        shared = [row for row in library.generics_of(k) if row in library.generics_of(j)]
        shapes = {word: library.shapes[word] for word, kinds, inner in shared if word in unlike}
        names = [row for row in library.names_of(k) if row in library.names_of(j)]
        definitions = [row for row in library.definitions if row.mark in one or row.mark in other]
        self.scope = Scope(library, names, shapes, [])
        self.grouping = Groups(self.scope, [row for row in definitions if row.generic in shapes])

    def unlike_groups(self, sort):
        """The groups of uses of both views and of a sort that have a choice in each view, but unlike ones."""
        if not self.scope.is_sort(sort):
            return []
        found = []
        for group in self.grouping.groups_for(sort):
            rows = [[case for case in group.taken_by if case.mark in marks] for marks in self.marks]
            one, other = [self.grouping.least(cases) for cases in rows]
            if one is not None and other is not None and one.mark != other.mark:
                found.append(group)
        return found


def pair_of(library, k, j):
    """Two views of a library, taken together."""
    key = ("pair", k, j)
    if key not in library.kept:
        library.kept[key] = Pair(library, k, j)
    return library.kept[key]
