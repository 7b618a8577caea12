"""Rings among the sorts that are met in a view."""

from mostspecial.circles import Circles, Graph
from mostspecial.flows import flow_of
from mostspecial.groups import groups_of
from mostspecial.moves import find_ways


class Walks:
    """Walks along still edges between some sorts, and along their threads.

    Its nodes are tuples (sort, a) of a sort and the beginning of a thread. The keys of `rings` are the sorts on
    rings, those of `growing` the sorts on rings on which something grows, and those of `constant` the sorts on
    rings of constants.
    """

    def __init__(self, moves, sorts):
        self.moves = moves
        graph = Graph()
        for sort in sorts:
            for edge in moves.edges_of(sort):
                self.add_edge(graph, sort, edge)
        self.circles = Circles(graph)
        self.rings = {node[0]: True for node in self.circles.turning if node[1] is None}
        self.growing = {node[0]: True for node in self.circles.strict if isinstance(node[1], int)}
        self.constant = {node[0]: True for node in self.circles.strict if isinstance(node[1], str)}

    def add_edge(self, graph, sort, edge):
        """Add the threads of an edge."""
        pile = self.moves.scope.shapes[sort[0]].pile
        for a, b, falls in edge.threads:
            # Where items stay laid on a pile, it grows by them on each round.
            graph.lead((sort, a), (edge.sort, b), falls or edge.stay > 0 and a == pile)


def walks_of(library, k):
    """The walks between the sorts that are met in a view."""
    key = ("walks", k)
    if key not in library.kept:
        sorts = list(flow_of(library, k, False).first)
        library.kept[key] = Walks(find_ways(groups_of(library, k), sorts), sorts)
    return library.kept[key]
