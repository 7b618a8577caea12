"""The rule of size of libraries that take apart."""

from mostspecial.eyes import eyes_of
from mostspecial.reaches import all_sights
from mostspecial.terms import count_signs, head_of, is_closed, variables

MOST_VIEWS = 4
MOST_NAMES = 8
MOST_GENERICS = 6
MOST_DEFINITIONS = 8
MOST_MEMBERS = 6
MOST_DEEP = 3
MOST_PLUS = 6
MOST_TIMES = 4
MOST_CLOSED_SIGNS = 12
MOST_SIGHTS = 100
MOST_SORTS = 300
MOST_BINDINGS = 20000
MOST_OF_ALL = 48

# Each function whose name begins with broken_ returns a list: of the word of a generic for which a limit does
# not hold, or of None for a limit that is not one of a single generic; it is empty if all its limits hold.


def broken_numbers(library):
    """The limits of how many there are of all kinds of things."""
    names = [row for source in library.sources.values() for row in source.names]
    fits = 1 <= len(library.views) <= MOST_VIEWS and len(names) <= MOST_NAMES
    if not fits or len(library.definitions) > MOST_OF_ALL:
        return [None]
    for k in range(len(library.views)):
        if len(library.generics_of(k)) > MOST_GENERICS:
            return [None]
    found = []
    for k in range(len(library.views)):
        found.extend(often_told(library.definitions_of(k)))
    for word in library.sources:
        found.extend(often_told([row for row in library.definitions if row.mark[0] == word]))
    found.extend([row.generic for row in library.definitions if len(row.members) > MOST_MEMBERS])
    return found


def often_told(definitions):
    """The generics that have too many of some definitions."""
    words = [definition.generic for definition in definitions]
    return [word for word in words if words.count(word) > MOST_DEFINITIONS]


def broken_terms(library):
    """The limits of terms in patterns, and of closed ones in inner uses."""
    found = []
    for definition in library.definitions:
        closed = []
        for handed in definition.handed:
            closed.extend([term for term in [*handed.plain, *handed.stack] if is_closed(term)])
        fits = all(depth(term) <= MOST_DEEP for term in definition.pattern)
        fits = fits and all(has_small_numbers(term) for term in [*definition.pattern, *closed])
        if not fits or any(count_signs((term,)) > MOST_CLOSED_SIGNS for term in closed):
            found.append(definition.generic)
    return found


def depth(term):
    """How deep a term is."""
    head = head_of(term)
    todo = [(item, 1) for item in term[1]] if head == "list" else [(term, 1)] if head in ("type", "var") else []
    deepest = 0
    while todo:
        part, deep = todo.pop()
        deepest = max(deepest, deep)
        if part[0] == "type":
            todo.extend([(arg, deep + 1) for arg in part[2]])
    return deepest


def has_small_numbers(term):
    """Whether a term has no greater numbers than one of such a library may have."""
    head = head_of(term)
    if head == "int":
        return term <= MOST_PLUS
    return head != "form" or term[1] <= MOST_TIMES and term[3] <= MOST_PLUS


def broken_sights(library):
    """The limits of the numbers of sights."""
    eyes = eyes_of(library)
    names = [row for word in sorted(library.sources) for row in library.sources[word].names]
    all_names = [names, *[library.names_of(k) for k in range(len(library.views))]]
    views = [all_sights(eyes, row, MOST_SIGHTS) for row in all_names]
    if not all(view is not None for view in views):
        return [None]
    found = []
    for k, sights in enumerate(views[1:]):
        many = {kind: len(sights[kind]) for kind in sights}
        for word, _, _ in library.generics_of(k):
            if count_sorts(library.shapes[word], many) > MOST_SORTS:
                found.append(word)
        for definition in library.definitions_of(k):
            if count_bindings(definition, many) > MOST_BINDINGS:
                found.append(definition.generic)
    return found


def count_sorts(shape, many):
    """The number of sorts of a generic, by the numbers of the sights of each kind."""
    found = 1 if shape.pile is None else many["type"] + 1
    for kind in shape.plain_kinds:
        found *= many[kind]
    return found


def count_bindings(definition, many):
    """In how many ways sights can be given to the variables of a pattern, but to the rest of a pile."""
    found = 1
    for variable, kind in seen_variables(definition):
        found *= many[kind]
    return found


def seen_variables(definition):
    """The tuples (variable, kind) of a pattern's variables at places that are looked at, but rests of piles."""
    shape = definition.shape
    terms = [*[definition.pattern[place] for place in shape.plain], *definition.own_items()]
    return variables(terms)


def broken_size(library):
    """A tuple of a generic, or None, and "size" if a limit does not hold, or None."""
    found = broken_numbers(library) or broken_terms(library) or broken_sights(library)
    return (found[0], "size") if found else None
