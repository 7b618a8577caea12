"""Open uses that go well."""

from mostspecial.apart import check_view
from mostspecial.backs import Goal, goal_of_sort, open_use
from mostspecial.errors import AsksTwo, TooLong
from mostspecial.flows import Flow
from mostspecial.groups import groups_of
from mostspecial.lanes import Lanes, base_ask, base_sort
from mostspecial.rows import group_cost
from mostspecial.strands import Strands
from mostspecial.table import MOST_ASKS
from mostspecial.walks import Walks, walks_of


def some_well(library, k):
    """An open use of a view that goes well, or None, where each definition asks one inner use at most."""
    check_view(library, k)
    marks = [definition.mark for definition in library.definitions_of(k) if asks_two(definition)]
    if marks:
        raise AsksTwo(min(marks))
    lanes, flow = lanes_of(library, k)
    rows = ends_well(lanes, flow, walks_of(library, k))
    if not rows:
        return None
    least = min([row[0] for row in rows])
    _, fact, goal = [row for row in rows if row[0] == least][0]
    if least[0] > MOST_ASKS:
        raise TooLong(least[0])
    steps = [(base_sort(sort), base_ask(ask)) for sort, ask in flow.steps(fact)]
    return open_use(lanes.base, steps, base_sort(fact[1]), goal)


def asks_two(definition):
    """Whether two unlike inner uses stand in a definition's members."""
    uses = [(handed.generic, handed.terms) for handed in definition.handed]
    return any([use != uses[0] for use in uses])


def lanes_of(library, k):
    """The lanes of a view, and the flow through them."""
    key = ("lanes", k)
    if key not in library.kept:
        lanes = Lanes(groups_of(library, k))
        library.kept[key] = (lanes, Flow(lanes, False))
    return library.kept[key]


def ends_well(lanes, flow, walks):
    """The tuples (cost, fact, goal) of all that ends, or goes round for ever, without going badly."""
    # Behind a use whose sort is on a ring only one thing comes after another, so it goes round if it can.
    sorts = list(flow.first)
    own = Walks(Strands(lanes, sorts).moves, sorts)
    found = []
    for sort, fact in flow.first.items():
        base = base_sort(sort)
        for group in lanes.base.groups_for(base):
            if group.chosen is not None and not group.chosen.definition.handed:
                if lanes.goes_on(group.chosen.definition, sort):
                    goal = Goal(group.terms, group.stack, not group.stack)
                    found.append((group_cost(flow, fact, group), fact, goal))
        lasting = base in walks.rings and base not in walks.growing and base not in walks.constant
        if lasting and (sort, None) in own.circles.leading:
            found.append((flow.costs[fact], fact, goal_of_sort(lanes.base, base)))
    return found
