"""Instances: what uses ask, and all uses that are made for some."""

from mostspecial.choices import check_most, choices_in, use_text, uses_of
from mostspecial.errors import InvalidRoots, Lacks, TooMany
from mostspecial.programs import prints_in


def asked(program, word, generic, terms):
    """What the members of a use's choice ask in the view of a text."""
    choices = choices_in(program, word)
    choices.check_use(generic, terms)
    return list(choices.choice(generic, terms).asked().values())


def roots(program, word):
    """The uses that the prints of a text ask, each once, in their order."""
    return list(once([asking[:2] for asking in uses_of(prints_in(program, word))]).values())


def once(uses):
    """Uses by their texts, in the order in which they first stand."""
    found = {}
    for generic, terms in uses:
        found.setdefault(use_text(generic, terms), (generic, terms))
    return found


def are_roots(value, choices):
    """Whether a value is a list of uses of a view."""
    if not isinstance(value, (list, tuple)):
        return False
    for row in value:
        if not isinstance(row, tuple) or len(row) != 2 or not choices.is_use(row[0], row[1]):
            return False
    return True


class Made:
    """The uses that are made, by their texts, as they come to be more."""

    def __init__(self, choices, uses, most):
        self.choices = choices
        self.most = most
        self.uses = uses
        self.texts = list(uses)

    def rows(self):
        """The tuples (generic, terms, mark) of all uses that are made."""
        found = []
        while len(found) < len(self.texts):
            text = self.texts[len(found)]
            generic, terms = self.uses[text]
            chosen = self.choices.choice_by_text(text, generic, terms)
            found.append((generic, terms, chosen.mark))
            for key, asking in chosen.asked().items():
                self.add_asked(key[0], asking)
        return found

    def add_asked(self, text, asking):
        """Make a use that is asked, unless it has been made."""
        generic, terms, word, many = asking
        if text not in self.uses:
            if len(self.texts) == self.most:
                raise TooMany(self.most)
            self.choices.check_size(generic, terms)
        if not self.choices.choice_by_text(text, generic, terms).has(word, many):
            raise Lacks(generic, terms, word, many)
        if text not in self.uses:
            self.uses[text] = (generic, terms)
            self.texts.append(text)


def instances(program, word, roots, most):
    """The uses of a list and all that are made for them in the view of a text, with the marks of their choices."""
    choices = choices_in(program, word)
    if not are_roots(roots, choices):
        raise InvalidRoots(roots)
    check_most(most)
    uses = once(roots)
    if len(uses) > most:
        raise TooMany(most)
    return Made(choices, uses, most).rows()
