"""What counts of uses, the books of units, and uses that have unlike choices in two views."""

from mostspecial.apart import check_library
from mostspecial.backs import Goal
from mostspecial.choices import Counts, check_program
from mostspecial.errors import InvalidUse, TooLong, Unlike
from mostspecial.flows import flow_of
from mostspecial.instances import instances
from mostspecial.pairs import pair_of
from mostspecial.places import definitions_in, shapes_of
from mostspecial.table import MOST_ASKS, road_back
from mostspecial.terms import are_use_terms
from mostspecial.termtexts import write_term


class Counting:
    """What counts of the uses of a program, by all of its texts."""

    def __init__(self, program):
        sources = list(program.sources.values())
        self.names = Counts([row for source in sources for row in source.names])
        generics = [row for source in sources for row in source.generics]
        self.shapes = shapes_of(generics, definitions_in(program.sources, list(program.sources)))

    def is_use(self, generic, terms):
        """Whether any values are a generic that a text tells, and the terms of a use of it."""
        if not isinstance(generic, str) or generic not in self.shapes:
            return False
        return are_use_terms(terms, self.shapes[generic].kinds, self.names)

    def text_of(self, generic, terms):
        """What counts of a use, as a string."""
        shape = self.shapes[generic]
        parts = []
        for place in shape.seen:
            term = terms[place]
            if place in shape.piles:
                parts.append(write_term(term[1][0]) if term[1] else "()")
            else:
                parts.append(write_term(term))
        inner = ",".join(parts)
        return f"{generic}<{inner}>"


def counts(program, generic, terms):
    """What counts of a use of a program, as a string."""
    check_program(program)
    counting = Counting(program)
    if not counting.is_use(generic, terms):
        raise InvalidUse((generic, terms))
    return counting.text_of(generic, terms)


def book(program, word, roots, most):
    """For what counts of each use that is made, the mark of the use's choice."""
    return book_of(program, instances(program, word, roots, most))


def book_of(program, rows):
    """The book of some uses with their choices: tuples (generic, terms, mark)."""
    counting = Counting(program)
    found, wrong = {}, {}
    for generic, terms, mark in rows:
        text = counting.text_of(generic, terms)
        if found.setdefault(text, mark) != mark:
            wrong[text] = True
    if wrong:
        raise Unlike(min(wrong))
    return found


def unlike(library):
    """Two views and open uses behind which the same counts of two uses that have unlike choices; or None."""
    check_library(library)
    rows = [row for j in range(len(library.views)) for k in range(j) for row in unlike_rows(library, k, j)]
    if not rows:
        return None
    least = min([row[0] for row in rows])
    if least[0] > MOST_ASKS:
        raise TooLong(least[0])
    _, k, j, sort, group = [row for row in rows if row[0] == least][0]
    goal = Goal(group.terms, group.stack, not group.stack)
    flows = [flow_of(library, view, False) for view in (k, j)]
    one, other = [road_back(flow, flow.first[sort], goal)[1:] for flow in flows]
    return k, one, j, other


def unlike_rows(library, k, j):
    """The tuples (cost, k, j, sort, group) of the uses that are met in two views and have unlike choices there."""
    flows = [flow_of(library, view, False) for view in (k, j)]
    pair, found = pair_of(library, k, j), []
    for sort in flows[0].first:
        if sort in flows[1].first:
            costs = [flow.costs[flow.first[sort]] for flow in flows]
            cost = (max([asks for asks, names in costs]), sum([names for asks, names in costs]))
            found.extend([(cost, k, j, sort, group) for group in pair.unlike_groups(sort)])
    return found
