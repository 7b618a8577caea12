"""Tables: patterns of one generic, and the choices of its uses."""

from math import lcm

from mostspecial.errors import HasTwo, InvalidKinds, InvalidPatterns, InvalidUse, NoTaker, TwoLeast
from mostspecial.matches import matching, more_special, renamed
from mostspecial.meets import meet
from mostspecial.splits import is_tree, search
from mostspecial.terms import TERM_KINDS, are_kinds, head_of, is_pattern, is_use, is_whole, variables
from mostspecial.termtexts import write_terms

MOST_PATTERNS = 8
MOST_CASE_VARIABLES = 3
MOST_PLUS = 12
MOST_STEP = 12


def is_small(pattern):
    """Whether a pattern has no more variables and no greater numbers than one of a table may have."""
    if len([kind for variable, kind in variables(pattern) if kind != "type"]) > MOST_CASE_VARIABLES:
        return False
    numbers = [term for term in pattern if head_of(term) == "int"]
    return max([*numbers, *[form[3] for form in forms_in(pattern)]], default=0) <= MOST_PLUS


def forms_in(pattern):
    """The forms of a pattern."""
    return [term for term in pattern if head_of(term) == "form"]


def are_patterns(value, kinds, names):
    """Whether a value is a list of patterns for a table."""
    if not isinstance(value, (list, tuple)) or len(value) > MOST_PATTERNS:
        return False
    if not all(is_pattern(row, kinds, names) for row in value):
        return False
    if not all(is_small(row) for row in value):
        return False
    step = 1
    for row in value:
        for form in forms_in(row):
            step = lcm(step, form[1])
    texts = {write_terms(renamed(row)) for row in value}
    return step <= MOST_STEP and len(texts) == len(value)


class Table:
    """Patterns of one generic, told by their indices, and the choices that they give to uses."""

    def __init__(self, names, kinds, patterns):
        if not are_kinds(kinds, TERM_KINDS):
            raise InvalidKinds(kinds)
        if not are_patterns(patterns, kinds, names):
            raise InvalidPatterns(patterns)
        self.names = names
        self.kinds = tuple(kinds)
        self.patterns = tuple(patterns)

    def __len__(self):
        return len(self.patterns)

    def takers(self, use):
        """The indices of the patterns that take a use."""
        if not is_use(use, self.kinds, self.names):
            raise InvalidUse(use)
        return [k for k, pattern in enumerate(self.patterns) if matching(pattern, use) is not None]

    def choice(self, use):
        """The index of the choice of a use."""
        takers = self.takers(use)
        if not takers:
            raise NoTaker(use)
        least = self.least_of(takers)
        if least is None:
            raise TwoLeast(use)
        return least

    def least_of(self, takers):
        """The index, among some, of the pattern that is more special than all these, or None."""
        for k in takers:
            if all([more_special(self.patterns[k], self.patterns[j]) for j in takers]):
                return k
        return None

    def pairs(self):
        """For each two patterns that have a meet: their indices, the meet, and what is more special than both.

        The last one is a list of tuples of an index and a pattern.
        """
        found = []
        rows = list(enumerate(self.patterns))
        for i, one in rows:
            for j, other in rows[i + 1:]:
                both = meet(one, other)
                if both is not None:
                    below = [row for row in rows if more_special(row[1], one) and more_special(row[1], other)]
                    found.append((i, j, both, below))
        return found

    def search(self, pattern, takers):
        """A tree and None, or None and a use, for a pattern and some patterns of the table by their indices."""
        return search(pattern, takers, [name for name, count in self.names.told])

    def two_choices(self):
        """A use that some pattern takes and that has no choice, or None."""
        for _, _, both, below in self.pairs():
            _, use = self.search(both, below)
            if use is not None:
                return use
        return None

    def why_one(self):
        """What shows that each use which some pattern takes has a choice."""
        found = []
        for i, j, both, below in self.pairs():
            tree, use = self.search(both, below)
            if use is not None:
                raise HasTwo(use)
            found.append((i, j, tree))
        return tuple(found)

    def further(self):
        """The meets of all patterns that take a use, for each use with takers and no choice."""
        found = {}
        for takers, both in self.groups():
            others = [row for row in enumerate(self.patterns) if row[0] not in takers]
            if self.least_of(takers) is None and self.search(both, others)[1] is not None:
                found[write_terms(both)] = both
        return [found[text] for text in sorted(found)]

    def groups(self):
        """For each group of patterns that have a meet: the list of their indices, and the meet."""
        found = []
        for k, pattern in enumerate(self.patterns):
            more = [([k], renamed(pattern))]
            for takers, both in found:
                least = meet(both, pattern)
                if least is not None:
                    more.append(([*takers, k], least))
            found.extend(more)
        return found

    def never(self):
        """The indices of the patterns that are the choice of no use."""
        found = []
        rows = list(enumerate(self.patterns))
        for k, pattern in rows:
            # Where patterns that are no less special take a use, this one is not its choice.
            others = [row for row in rows if not more_special(pattern, row[1])]
            if self.search(renamed(pattern), others)[1] is None:
                found.append(k)
        return found


def is_why_one(table, value):
    """Whether a value shows that each use which some pattern of a table takes has a choice."""
    pairs = table.pairs()
    if not isinstance(value, tuple) or len(value) != len(pairs):
        return False
    return all([is_pair_row(pair, row) for pair, row in zip(pairs, value)])


def is_pair_row(pair, value):
    """Whether a value is a tuple of two indices and a tree, as it is due for two patterns."""
    i, j, both, below = pair
    if not isinstance(value, tuple) or len(value) != 3:
        return False
    if not is_whole(value[0]) or not is_whole(value[1]) or value[:2] != (i, j):
        return False
    return is_tree(both, dict(below), value[2])
