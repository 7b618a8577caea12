"""Which uses are met in a view, and the shortest roads to them."""

from mostspecial.apart import check_view
from mostspecial.backs import goal_of, open_use
from mostspecial.errors import NotMet, TooLong
from mostspecial.flows import flow_of
from mostspecial.steps import sort_of

MOST_ASKS = 30


def sorts(library, k):
    """The sorts that are met in a view."""
    check_view(library, k)
    return list(flow_of(library, k, False).first)


def met(library, k, generic, terms):
    """Whether a use is met in a view."""
    return sort_of(library, k, generic, terms) in flow_of(library, k, False).first


def road(library, k, generic, terms):
    """The least number of asks behind which what counts of a use lies, and an open use behind which it does."""
    sort = sort_of(library, k, generic, terms)
    flow = flow_of(library, k, False)
    if sort not in flow.first:
        raise NotMet(generic, terms)
    return road_back(flow, flow.first[sort], goal_of(flow.scope, generic, terms))


def road_back(flow, fact, goal):
    """The number of asks by which a fact comes about, and an open use behind which a use that has a goal lies so."""
    asks = flow.costs[fact][0]
    if asks > MOST_ASKS:
        raise TooLong(asks)
    return (asks, *open_use(flow.grouping, flow.steps(fact), fact[1], goal))
