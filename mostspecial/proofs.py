"""Papers made of the sorts that are met."""

from mostspecial.flows import flow_of
from mostspecial.groups import groups_of
from mostspecial.papers import followed, told
from mostspecial.walks import walks_of


def paper_of(library):
    """A paper of a library all of whose uses go well."""
    return tuple([part_of(library, k) for k in range(len(library.views))])


def part_of(library, k):
    """The part of a paper for a view."""
    walks = walks_of(library, k)
    return tuple([row_of(groups_of(library, k), walks, sort) for sort in flow_of(library, k, False).first])


def row_of(groups, walks, sort):
    """The row of a sort."""
    ways = []
    for (control, asked), threads in walks.moves.ways_out(sort).items():
        ways.append((*control, *asked, tuple(told(threads))))
    numbers = [(a, walks.circles.ranks.get((sort, a), 0)) for a in followed(groups, sort)]
    return sort, tuple(ways), tuple(numbers)
