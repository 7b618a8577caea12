"""Uses that go badly, definitions that no use comes to, and further definitions that are needed."""

from mostspecial.apart import check_view
from mostspecial.backs import Goal
from mostspecial.errors import Dead
from mostspecial.flows import flow_of
from mostspecial.groups import groups_of
from mostspecial.meets import meet_all
from mostspecial.table import road_back
from mostspecial.terms import is_whole
from mostspecial.termtexts import write_terms
from mostspecial.ways import together


def wrong_with(group, asked):
    """What is wrong with the uses of a group if they are asked for a member, or None."""
    if not group.taken_by:
        return "none"
    if group.chosen is None:
        return "two"
    if asked is None:
        return None
    return None if group.chosen.definition.has(*asked) else "lacks"


def wrong_rows(flow):
    """The tuples (cost, fact, group, what) of all uses that go badly."""
    found = []
    for fact in flow.costs:
        if fact[0] == "sort":
            for group in flow.grouping.groups_for(fact[1]):
                what = wrong_with(group, fact[2])
                if what is not None:
                    found.append((group_cost(flow, fact, group), fact, group, what))
    return found


def group_cost(flow, fact, group):
    """The cost of a fact if what is met by it is a use of a group."""
    generic, plain, first = fact[1]
    least = flow.scope.cost(generic, plain, [] if first is None or first == "()" else [first])
    return together(flow.costs[fact], flow.ways.names_cost(group.names - least))


def group_road(flow, fact, group):
    """The number of asks by which a fact comes about, and an open use behind which a use of a group lies so."""
    return road_back(flow, fact, Goal(group.terms, group.stack, not group.stack))


def bad(library, k):
    """The least number of asks behind which a use goes badly, what is wrong, and an open use; or None."""
    check_view(library, k)
    flow = flow_of(library, k, False)
    rows = wrong_rows(flow)
    if not rows:
        return None
    least = min([row[0] for row in rows])
    _, fact, group, what = [row for row in rows if row[0] == least][0]
    asks, generic, terms = group_road(flow, fact, group)
    return asks, what, generic, terms


def least_names(library, k):
    """The least number of type names where an open use is looked at behind which a use goes badly, or None."""
    check_view(library, k)
    return min([row[0][0] for row in wrong_rows(flow_of(library, k, True))], default=None)


def chosen_rows(library, k):
    """For each mark of a definition that is the choice of a met use the best tuple (cost, fact, group)."""
    flow = flow_of(library, k, False)
    found = {}
    for sort, fact in flow.first.items():
        for group in flow.grouping.groups_for(sort):
            if group.chosen is not None:
                mark, cost = group.chosen.mark, group_cost(flow, fact, group)
                if mark not in found or cost < found[mark][0]:
                    found[mark] = (cost, fact, group)
    return found


def dead(library, k):
    """The marks of the definitions of a view that are the choice of no met use."""
    check_view(library, k)
    found = chosen_rows(library, k)
    return [row.mark for row in library.definitions_of(k) if row.mark not in found]


def chooser(library, k, mark):
    """The least number of asks behind which a use lies of which a definition is the choice, and an open use."""
    check_view(library, k)
    if not is_mark(mark):
        raise Dead(mark)
    found = chosen_rows(library, k)
    if mark not in found:
        raise Dead(mark)
    _, fact, group = found[mark]
    return group_road(flow_of(library, k, False), fact, group)


def is_mark(value):
    """Whether a value looks like a mark."""
    return isinstance(value, tuple) and len(value) == 2 and isinstance(value[0], str) and is_whole(value[1])


def needed(library, k):
    """The generics and patterns of further definitions by which each met use that has takers has a choice."""
    check_view(library, k)
    groups, found = groups_of(library, k), {}
    for sort in flow_of(library, k, False).first:
        for group in groups.groups_for(sort):
            if group.taken_by and group.chosen is None:
                pattern = meet_all([case.definition.pattern for case in group.taken_by])
                found[(sort[0], write_terms(pattern))] = pattern
    return [(key[0], found[key]) for key in sorted(found)]
