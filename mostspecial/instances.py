"""Instances: what uses ask, and all uses that are made for some."""

from mostspecial.choices import check_most, choices_in, use_text, uses_of
from mostspecial.errors import InvalidRoots, Lacks, TooMany
from mostspecial.programs import prints_in


def asked(program, word, generic, terms):
    """What the members of a use's choice ask in the view of a text."""
    choices = choices_in(program, word)
    choices.check_use(generic, terms)
    return choices.choice(generic, terms).asked()


def roots(program, word):
    """The uses that the prints of a text ask, each once, in their order."""
    return once([asking[:2] for asking in uses_of(prints_in(program, word))])


def once(uses):
    """Uses, each once, in the order in which they first stand."""
    found = {}
    for generic, terms in uses:
        found.setdefault(use_text(generic, terms), (generic, terms))
    return list(found.values())


def are_roots(value, choices):
    """Whether a value is a list of uses of a view."""
    if not isinstance(value, (list, tuple)):
        return False
    for row in value:
        if not isinstance(row, tuple) or len(row) != 2 or not choices.is_use(row[0], row[1]):
            return False
    return True


class Made:
    """The list of the uses that are made, as it grows."""

    def __init__(self, choices, uses, most):
        self.choices = choices
        self.most = most
        self.uses = uses
        self.known = {use_text(generic, terms): True for generic, terms in uses}

    def rows(self):
        """The tuples (generic, terms, mark) of all uses that are made."""
        found = []
        while len(found) < len(self.uses):
            generic, terms = self.uses[len(found)]
            chosen = self.choices.choice(generic, terms)
            found.append((generic, terms, chosen.mark))
            for asking in chosen.asked():
                self.add_asked(*asking)
        return found

    def add_asked(self, generic, terms, word, many):
        """Make a use that is asked, unless it has been made."""
        text = use_text(generic, terms)
        if text not in self.known and len(self.uses) == self.most:
            raise TooMany(self.most)
        self.choices.check_size(generic, terms)
        if not self.choices.choice(generic, terms).has(word, many):
            raise Lacks(generic, terms, word, many)
        if text not in self.known:
            self.known[text] = True
            self.uses.append((generic, terms))


def instances(program, word, roots, most):
    """The uses of a list and all that are made for them in the view of a text, with the marks of their choices."""
    choices = choices_in(program, word)
    if not are_roots(roots, choices):
        raise InvalidRoots(roots)
    check_most(most)
    uses = once(roots)
    if len(uses) > most:
        raise TooMany(most)
    return Made(choices, uses, most).rows()
