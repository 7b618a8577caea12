"""Places of generics that are looked at, and what stands in definitions."""

from mostspecial.choices import uses_of_members
from mostspecial.terms import head_of, standing


class Shape:
    """The places of a generic: `plain` are those that are looked at and no pile, `pile` is that of a pile, or None."""

    def __init__(self, kinds, seen):
        piles = [place for place, kind in enumerate(kinds) if kind == "pile"]
        self.kinds = kinds
        self.seen = seen
        self.plain = [place for place in seen if place not in piles]
        self.plain_kinds = [kinds[place] for place in self.plain]
        self.carried = [place for place in range(len(kinds)) if place not in seen]
        self.pile = piles[0] if piles else None
        self.piles = piles

    def pile_of(self, terms):
        """The list that some terms have at the place of the pile, None if there is no such place."""
        return None if self.pile is None else terms[self.pile]


class Definition:
    """A definition with its mark; `uses` has what its members ask: tuples (generic, terms, word, many).

    `handed` tells for each of these what is handed on, once it is known which places are looked at.
    """

    def __init__(self, mark, generic, pattern, members):
        self.mark = mark
        self.generic = generic
        self.pattern = pattern
        self.members = members
        self.uses = uses_of_members(members)
        self.often = often_in(pattern)
        self.shape = None
        self.handed = []

    def settle(self, shapes):
        """Take the shapes of all generics, by their words."""
        self.shape = shapes[self.generic]
        self.handed = [Handed(use, shapes[use[0]], self.own_rest()) for use in self.uses]

    def has(self, word, many):
        """Whether there is the constant, `many` being -1, or the function with so many parameters."""
        if many == -1:
            return any(member[:2] == ("const", word) for member in self.members)
        return any(member[:2] == ("fun", word) and len(member[2]) == many for member in self.members)

    def constant_words(self):
        """The words of the constants, in their order."""
        return [member[1] for member in self.members if member[0] == "const"]

    def own_items(self):
        """The items that the pattern has at its pile."""
        pile = self.shape.pile_of(self.pattern)
        return () if pile is None else pile[1]

    def own_rest(self):
        """The rest that the pattern has at its pile, None if there is none."""
        pile = self.shape.pile_of(self.pattern)
        return None if pile is None else pile[2]


class Handed:
    """What an inner use hands on: `plain` at plain places, the items `stack` and the `rest` at a pile.

    `how` is None if its generic has no pile, "laid" if the rest is that of the pile of its definition's
    pattern, "beside" if it is another one, and "begun" if there is no rest.
    """

    def __init__(self, use, shape, own_rest):
        self.generic, self.terms, self.word, self.many = use
        self.shape = shape
        self.plain = tuple([self.terms[place] for place in shape.plain])
        pile = shape.pile_of(self.terms)
        self.stack = () if pile is None else pile[1]
        self.rest = None if pile is None else pile[2]
        if pile is None:
            self.how = None
        elif self.rest is None:
            self.how = "begun"
        else:
            self.how = "laid" if self.rest == own_rest else "beside"

    def all_seen(self):
        """The terms at all places that are looked at."""
        return [self.terms[place] for place in self.shape.seen]


def often_in(terms):
    """The variables that stand twice or more in terms, as the keys of a dict."""
    many = {}
    for variable, _ in standing(terms):
        many[variable] = many.get(variable, 0) + 1
    return {variable: True for variable in many if many[variable] > 1}


def shapes_of(generics, definitions):
    """The shapes of all generics, by their words; they are told to the definitions, too."""
    seen = looked_at(generics, definitions)
    shapes = {word: Shape(kinds, seen[word]) for word, kinds, inner in generics}
    for definition in definitions:
        definition.settle(shapes)
    return shapes


def definitions_in(sources, words):
    """The definitions of the texts with some words, by their marks."""
    found = []
    for word in words:
        for k, (_, generic, pattern, members) in enumerate(sources[word].definitions):
            found.append(Definition((word, k), generic, pattern, members))
    return found


def bare_variable(term):
    """The variable of a bare variable, None for all other terms."""
    head = head_of(term)
    if head == "var":
        return term[1]
    if head == "form":
        return term[2] if term[1] == 1 and term[3] == 0 else None
    return term[2] if head == "list" and not term[1] else None


def looked_at(generics, definitions):
    """For each of some generics (word, kinds, inner) the list of the places that are looked at."""
    found = {word: {} for word, kinds, inner in generics}
    for word, kinds, _ in generics:
        for place, kind in enumerate(kinds):
            if kind == "pile":
                found[word][place] = True
    for definition in definitions:
        for place, term in enumerate(definition.pattern):
            variable = bare_variable(term)
            if variable is None or variable in definition.often:
                found[definition.generic][place] = True
    more = True
    while more:
        more = [row for definition in definitions for row in handing_places(definition, found)]
        for generic, place in more:
            found[generic][place] = True
    return {word: sorted(found[word]) for word in found}


def handing_places(definition, found):
    """The places of a definition's pattern from which variables are handed on to places that are looked at.

    They are told as tuples (generic, place), without those that are known to be looked at.
    """
    handed = {}
    for generic, terms, _, _ in definition.uses:
        for variable, _ in standing([terms[place] for place in found[generic]]):
            handed[variable] = True
    own = found[definition.generic]
    return [(definition.generic, place) for place, term in enumerate(definition.pattern)
            if place not in own and bare_variable(term) in handed]
