"""Places of generics that are looked at, and what stands in definitions."""

from mostspecial.choices import uses_of_members
from mostspecial.terms import head_of, standing


class Definition:
    """A definition with its mark; `uses` has what its members ask: tuples (generic, terms, word, many)."""

    def __init__(self, mark, generic, pattern, members):
        self.mark = mark
        self.generic = generic
        self.pattern = pattern
        self.members = members
        self.uses = uses_of_members(members)
        self.often = often_in(pattern)


def often_in(terms):
    """The variables that stand twice or more in terms, as the keys of a dict."""
    many = {}
    for variable, _ in standing(terms):
        many[variable] = many.get(variable, 0) + 1
    return {variable: True for variable in many if many[variable] > 1}


def definitions_in(sources, words):
    """The definitions of the texts with some words, by their marks."""
    found = []
    for word in words:
        for k, (_, generic, pattern, members) in enumerate(sources[word].definitions):
            found.append(Definition((word, k), generic, pattern, members))
    return found


def bare_variable(term):
    """The variable of a bare variable, None for all other terms."""
    head = head_of(term)
    if head == "var":
        return term[1]
    if head == "form":
        return term[2] if term[1] == 1 and term[3] == 0 else None
    return term[2] if head == "list" and not term[1] else None


def looked_at(generics, definitions):
    """For each of some generics (word, kinds, inner) the list of the places that are looked at."""
    found = {word: {} for word, kinds, inner in generics}
    for word, kinds, _ in generics:
        for place, kind in enumerate(kinds):
            if kind == "pile":
                found[word][place] = True
    for definition in definitions:
        for place, term in enumerate(definition.pattern):
            variable = bare_variable(term)
            if variable is None or variable in definition.often:
                found[definition.generic][place] = True
    more = True
    while more:
        more = [row for definition in definitions for row in handing_places(definition, found)]
        for generic, place in more:
            found[generic][place] = True
    return {word: sorted(found[word]) for word in found}


def handing_places(definition, found):
    """The places of a definition's pattern from which variables are handed on to places that are looked at.

    They are told as tuples (generic, place), without those that are known to be looked at.
    """
    handed = {}
    for generic, terms, _, _ in definition.uses:
        for variable, _ in standing([terms[place] for place in found[generic]]):
            handed[variable] = True
    own = found[definition.generic]
    return [(definition.generic, place) for place, term in enumerate(definition.pattern)
            if place not in own and bare_variable(term) in handed]
