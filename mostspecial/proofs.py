"""Papers made of the sorts that are met."""

from mostspecial.flows import flow_of
from mostspecial.parts import followed
from mostspecial.threads import told
from mostspecial.walks import walks_of


def paper_of(library):
    """A paper of a library all of whose uses go well."""
    return tuple([part_of(library, k) for k in range(len(library.views))])


def part_of(library, k):
    """The part of a paper for a view."""
    flow, walks = flow_of(library, k, False), walks_of(library, k)
    return tuple([row_of(flow, walks, sort) for sort in flow.first])


def row_of(flow, walks, sort):
    """The row of a sort."""
    ways = []
    for (control, asked), _ in flow.ways.exits.get(sort, []):
        threads = walks.moves.ways_out(sort).get((control, asked), {})
        ways.append((*control, *asked, tuple(told(threads))))
    numbers = [(a, walks.circles.ranks.get((sort, a), 0)) for a in followed(flow.grouping, sort)]
    return sort, tuple(ways), tuple(numbers)
