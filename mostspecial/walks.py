"""Rings among the sorts that are met in a view."""

from mostspecial.circles import Circles, Graph
from mostspecial.flows import flow_of
from mostspecial.groups import groups_of
from mostspecial.moves import spot_of, stays
from mostspecial.strands import Strands

# Whether there is less at the end of a thread: surely, only if items stay laid, or not at all.
FALLS = "falls"
BY_PILE = "by pile"
LEVEL = "level"


def tendency(scope, sort, thread):
    """Whether there is less at the end of an ask's thread."""
    a, _, falls = thread
    if falls:
        return FALLS
    return BY_PILE if a is not None and a == scope.shapes[sort[0]].pile else LEVEL


def falls_at(spot, how):
    """Whether there is less at the end of a thread that comes to the first item of a spot."""
    return how == FALLS or how == BY_PILE and stays(spot)


def thread_leads(moves, node):
    """The nodes (spot, b, how) to which a thread goes on when the first item at the spot of a node is gone."""
    spot, b, how = node
    found = {}
    for other, _, threads in moves.leads(spot):
        for a, c, falls in threads:
            if a == b:
                found[(other, c, FALLS if falls else how)] = True
    return list(found)


class Walks:
    """Walks along still edges between some sorts, and along their threads.

    The nodes of its graph are tuples (sort, a) of a sort and the beginning of a thread, and between these nodes
    (spot, b, how) for the ways that edges go. The keys of `rings` are the sorts on rings, those of `growing` the
    sorts on rings on which something grows, and those of `constant` the sorts on rings of constants.
    """

    def __init__(self, moves, sorts):
        self.moves = moves
        self.graph = Graph()
        self.todo = []
        for sort in sorts:
            self.begin(sort)
        while self.todo:
            self.go_on(self.todo.pop())
        self.circles = Circles(self.graph)
        self.rings = sorts_of_nodes(self.circles.turning, is_still_node)
        self.growing = sorts_of_nodes(self.circles.strict, is_place_node)
        self.constant = sorts_of_nodes(self.circles.strict, is_constant_node)

    def begin(self, sort):
        """Add the threads of all that uses of a sort ask."""
        for ask in self.moves.grouping.asks_for(sort):
            spot = spot_of(sort, ask)
            for thread in self.moves.threads_by(sort, ask):
                how = tendency(self.moves.scope, sort, thread)
                self.lead((sort, thread[0]), (spot, thread[1], how), False)

    def lead(self, node, other, strict):
        """Add an arc; a node to which none has led is to be looked at."""
        if other not in self.graph.arcs and len(other) == 3:
            self.todo.append(other)
        self.graph.lead(node, other, strict)

    def go_on(self, node):
        """Add the arcs from a node at a spot."""
        spot, b, how = node
        for top, _ in self.moves.tops(spot):
            self.lead(node, (top, b), falls_at(spot, how))
        for other in thread_leads(self.moves, node):
            self.lead(node, other, False)


def sorts_of_nodes(nodes, fits):
    """The sorts of those nodes that fit, as the keys of a dict."""
    return {node[0]: True for node in nodes if len(node) == 2 and fits(node)}


def is_still_node(node):
    """Whether a node is one of the thread that tells that an ask is still."""
    return node[1] is None


def is_place_node(node):
    """Whether a node is one of a thread from a place."""
    return isinstance(node[1], int)


def is_constant_node(node):
    """Whether a node is one of a thread from a constant."""
    return isinstance(node[1], str)


def walks_of(library, k):
    """The walks between the sorts that are met in a view."""
    key = ("walks", k)
    if key not in library.kept:
        sorts = list(flow_of(library, k, False).first)
        library.kept[key] = Walks(Strands(groups_of(library, k), sorts).moves, sorts)
    return library.kept[key]
