"""The sorts of the uses of a view of a library."""

from mostspecial.eyes import eyes_of
from mostspecial.reaches import all_sights
from mostspecial.samples import samples_of
from mostspecial.sizes import MOST_SIGHTS
from mostspecial.terms import are_use_terms, is_whole


class ViewNames:
    """The type names of a view; those that other headers tell fit nowhere, and all others are strange."""

    def __init__(self, own, others):
        self.counts = {name: -1 for name, count in others}
        self.counts.update({name: count for name, count in own})

    def count_of(self, name):
        """The count of a type name, 0 if it is strange, -1 if no term of the view has it."""
        return self.counts.get(name, 0)


def header_names(library):
    """The tuples (type name, count) that all headers of a library tell."""
    return [row for word in sorted(library.sources) for row in library.sources[word].names]


def is_sight_form(value, kind):
    """Whether a value looks like a sight of a kind, so that it can be sought among such."""
    if not isinstance(value, tuple):
        return False
    if kind == "num":
        return len(value) == 2 and isinstance(value[0], str) and is_whole(value[1])
    return all(is_whole(index) for index in value)


class Scope:
    """Type names and generics of a library, those of a view or of two together, and the sights of their terms.

    `shapes` has the shapes of the generics by what tells them, and `openly` tells those that are open.
    """

    def __init__(self, library, names, shapes, openly):
        self.library = library
        self.told = tuple(names)
        self.eyes = eyes_of(library)
        self.samples = samples_of(library)
        self.sights = all_sights(self.eyes, names, MOST_SIGHTS)
        self.known = {}
        for kind in self.sights:
            self.known[kind] = {sight: True for sight in self.sights[kind]}
        self.names = ViewNames(names, header_names(library))
        self.shapes = shapes
        self.openly = openly
        self.split_up = None

    def splits_of(self, sight):
        """The sights of first items of lists of a sight, each with those of the lists that may stand behind it."""
        if self.split_up is None:
            self.split_up = {}
            for behind in self.sights["types"]:
                for item in self.sights["type"]:
                    rows = self.split_up.setdefault(self.eyes.longer_sight(item, behind), {})
                    rows.setdefault(item, []).append(behind)
        return self.split_up.get(sight, {})

    def is_use(self, generic, terms):
        """Whether any values are a generic of the view and the terms of a use of the view."""
        if not isinstance(generic, str) or generic not in self.shapes:
            return False
        return are_use_terms(terms, self.shapes[generic].kinds, self.names)

    def sort_of(self, generic, terms):
        """The sort of a use."""
        shape = self.shapes[generic]
        plain = tuple([self.eyes.sight_of(shape.kinds[place], terms[place], {}) for place in shape.plain])
        pile = shape.pile_of(terms)
        if pile is None:
            return generic, plain, None
        return generic, plain, self.eyes.sight_of("type", pile[1][0], {}) if pile[1] else "()"

    def is_sight(self, value, kind):
        """Whether a value is a sight of terms of the view."""
        return is_sight_form(value, kind) and value in self.known[kind]

    def is_sort(self, value):
        """Whether a value is the sort of a use of the view."""
        if not isinstance(value, tuple) or len(value) != 3:
            return False
        generic, plain, first = value
        if not isinstance(generic, str) or generic not in self.shapes or not isinstance(plain, tuple):
            return False
        shape = self.shapes[generic]
        if len(plain) != len(shape.plain):
            return False
        if not all([self.is_sight(sight, kind) for sight, kind in zip(plain, shape.plain_kinds)]):
            return False
        if shape.pile is None:
            return first is None
        return first == "()" or self.is_sight(first, "type")

    def rows_of_sights(self, generic):
        """The sights that uses of a generic may have at plain places."""
        found = [()]
        for kind in self.shapes[generic].plain_kinds:
            found = [(*row, sight) for row in found for sight in self.sights[kind]]
        return found

    def sorts_of(self, generic):
        """The sorts of all uses of a generic."""
        firsts = [None] if self.shapes[generic].pile is None else ["()", *self.sights["type"]]
        return [(generic, row, first) for row in self.rows_of_sights(generic) for first in firsts]

    def cost(self, generic, plain, items):
        """The least number of type names in terms of some sights at plain places, and in items of some sights."""
        kinds = self.shapes[generic].plain_kinds
        found = sum([self.samples.cost(kind, sight) for kind, sight in zip(kinds, plain)])
        return found + sum([self.samples.cost("type", sight) for sight in items])


def scope_of(library, k):
    """The scope of a view."""
    key = ("scope", k)
    if key not in library.kept:
        generics = library.generics_of(k)
        shapes = {word: library.shapes[word] for word, kinds, inner in generics}
        openly = [word for word, kinds, inner in generics if not inner]
        library.kept[key] = Scope(library, library.names_of(k), shapes, openly)
    return library.kept[key]
