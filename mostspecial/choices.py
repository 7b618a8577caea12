"""The choices that the definitions of a view give to uses, and what a definition asks."""

from mostspecial.errors import InvalidMost, InvalidProgram, InvalidUse, NoChoice, TooGreat, TwoChoices
from mostspecial.expressions import all_in
from mostspecial.matches import matching, more_special, put_in_all
from mostspecial.programs import faults, view
from mostspecial.sources import expression_of
from mostspecial.terms import are_use_terms, is_whole, scan_places
from mostspecial.termtexts import write_terms

MOST_STEPS = 1000


def check_program(program):
    """Raise InvalidProgram if a program has faults."""
    if program.wrong:
        raise InvalidProgram(faults(program))


def check_most(most):
    """Raise InvalidMost unless this is a number of steps that may be allowed."""
    if not is_whole(most) or not 0 <= most <= MOST_STEPS:
        raise InvalidMost(most)


def use_text(generic, terms):
    """The text of a use: unlike uses have unlike ones."""
    return f"{generic}<{write_terms(terms)}>"


def uses_of(expressions):
    """What expressions ask, each once and in their order: tuples (generic, terms, word, many)."""
    found = {}
    for expression in expressions:
        for part in all_in(expression):
            if part[0] in ("const", "call"):
                many = len(part[4]) if part[0] == "call" else -1
                key = (use_text(part[1], part[2]), part[3], many)
                found.setdefault(key, (part[1], part[2], part[3], many))
    return list(found.values())


def uses_of_members(members):
    """What members ask, each once and in their order."""
    return uses_of([expression_of(member) for member in members])


class Counts:
    """The counts of some type names; all others are strange."""

    def __init__(self, names):
        self.counts = {name: count for name, count in names}

    def count_of(self, name):
        """The count of a type name, 0 if it is strange."""
        return self.counts.get(name, 0)


class Chosen:
    """A use with its choice: `binding` has the use's terms in place of the variables of the choice's pattern."""

    def __init__(self, text, use, definition, binding):
        self.text = text
        self.generic, self.terms = use
        self.mark = definition[0]
        self.members = definition[3]
        self.binding = binding
        self.constants = {member[1]: member[2] for member in self.members if member[0] == "const"}
        self.functions = {}
        for member in self.members:
            if member[0] == "fun":
                self.functions[(member[1], len(member[2]))] = member[2:]

    def has(self, word, many):
        """Whether there is the constant, `many` being -1, or the function with so many parameters."""
        return word in self.constants if many == -1 else (word, many) in self.functions

    def asked(self):
        """What the members ask: tuples (generic, terms, word, many), each by (text, word, many) with its use's text."""
        found = {}
        for generic, terms, word, many in uses_of_members(self.members):
            new = put_in_all(terms, self.binding)
            found.setdefault((use_text(generic, new), word, many), (generic, new, word, many))
        return found


class Choices:
    """The names, generics and definitions of a view, and the choices that have been asked for so far."""

    def __init__(self, names, generics, definitions):
        self.names = Counts(names)
        self.kinds = {word: kinds for word, kinds, inner in generics}
        self.definitions = {word: [] for word in self.kinds}
        for definition in definitions:
            self.definitions[definition[1]].append(definition)
        self.chosen = {}

    def is_use(self, generic, terms):
        """Whether any values are a generic of the view and the terms of a use of it, within the limits."""
        if not isinstance(generic, str) or generic not in self.kinds:
            return False
        return are_use_terms(terms, self.kinds[generic], self.names)

    def check_use(self, generic, terms):
        """Raise InvalidUse unless these are a use of the view."""
        if not self.is_use(generic, terms):
            raise InvalidUse((generic, terms))

    def check_size(self, generic, terms):
        """Raise TooGreat if a use that is asked is too great."""
        if scan_places(terms, self.kinds[generic], self.names) is None:
            raise TooGreat()

    def choice(self, generic, terms):
        """A use with its choice; it raises NoChoice and TwoChoices."""
        return self.choice_by_text(use_text(generic, terms), generic, terms)

    def choice_by_text(self, text, generic, terms):
        """A use with its choice, by the text of the use, which takes long to write where a use is great."""
        if text not in self.chosen:
            self.chosen[text] = self.find_choice(text, generic, terms)
        return self.chosen[text]

    def find_choice(self, text, generic, terms):
        """A use with its choice, reckoned anew."""
        takers = []
        for definition in self.definitions[generic]:
            binding = matching(definition[2], terms)
            if binding is not None:
                takers.append((definition, binding))
        if not takers:
            raise NoChoice(generic, terms)
        for definition, binding in takers:
            if all([more_special(definition[2], other[2]) for other, bound in takers]):
                return Chosen(text, (generic, terms), definition, binding)
        raise TwoChoices(generic, terms)


def choices_in(program, word):
    """The choices in the view of a text; it raises what `view` raises."""
    names, generics, definitions = view(program, word)
    return Choices(names, generics, definitions)
