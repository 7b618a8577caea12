"""Definitions of one generic that take a use in common, and what inner uses hand on by such uses."""

from mostspecial.matches import fitted, put_in_all
from mostspecial.meets import meet
from mostspecial.places import often_in


class Meeting:
    """A definition and another one of its generic whose patterns have a meet.

    `binding` has the terms of the meet in place of the variables of the definition's own pattern, and `often`
    the variables that stand twice or more in the meet.
    """

    def __init__(self, definition, both):
        self.definition = definition
        self.binding = fitted(definition.pattern, both)
        self.often = often_in(both)

    def handed_on(self, handed):
        """What an inner use of the definition hands on, with the meet's terms in place of the variables.

        It is told as tuples of a kind and a term, of a pile each item, also one of the meet under a bare pile,
        and the rest by itself, which is of the kind pile if it is that of the definition's own pile.
        """
        found = list(zip(handed.shape.plain_kinds, put_in_all(handed.plain, self.binding)))
        found.extend([("type", item) for item in put_in_all(handed.stack, self.binding)])
        if handed.rest is None:
            return found
        _, items, rest = self.binding[handed.rest]
        if handed.how == "beside":
            return [*found, ("types", ("list", items, rest))]
        return [*found, *[("type", item) for item in items], ("pile", ("list", (), rest))]


def meetings(library):
    """All meetings of the definitions of a library."""
    if "meetings" not in library.kept:
        library.kept["meetings"] = find_meetings(library.definitions)
    return library.kept["meetings"]


def find_meetings(definitions):
    """All meetings of some definitions."""
    found = []
    for k, one in enumerate(definitions):
        for other in definitions[:k]:
            both = meet(one.pattern, other.pattern) if one.generic == other.generic else None
            if both is not None:
                found.extend([Meeting(one, both), Meeting(other, both)])
    return found
