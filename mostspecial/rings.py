"""Uses for which endlessly many are made, and constants without a value."""

from mostspecial.apart import check_view
from mostspecial.backs import goal_of_sort
from mostspecial.flows import flow_of
from mostspecial.table import road_back
from mostspecial.walks import walks_of


def endless(library, k):
    """An open use of a view for which endlessly many uses are made, or None."""
    check_view(library, k)
    return use_leading(library, k, walks_of(library, k).growing)


def no_value(library, k):
    """An open use of a view for which a use is made that has a constant without a value, or None."""
    check_view(library, k)
    return use_leading(library, k, walks_of(library, k).constant)


def use_leading(library, k, sorts):
    """An open use of a view behind which a use of one of some met sorts lies after as few asks as any, or None."""
    flow = flow_of(library, k, False)
    rows = [(flow.costs[flow.first[sort]], sort) for sort in flow.first if sort in sorts]
    if not rows:
        return None
    least = min([cost for cost, sort in rows])
    sort = [sort for cost, sort in rows if cost == least][0]
    return road_back(flow, flow.first[sort], goal_of_sort(flow.grouping, sort))[1:]
