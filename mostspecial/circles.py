"""Circles in graphs: nodes that lead to one another, and how many steps that count lie ahead of a node."""


class Graph:
    """Nodes with arcs: `arcs` has for each node a dict from nodes to whether the arc to them counts."""

    def __init__(self):
        self.arcs = {}

    def add_nodes(self, nodes):
        """Add nodes that may have no arcs."""
        for node in nodes:
            self.arcs.setdefault(node, {})

    def lead(self, node, other, strict):
        """Add an arc; of several between two nodes, one that counts is enough."""
        row = self.arcs.setdefault(node, {})
        row[other] = strict or row.get(other, False)
        self.arcs.setdefault(other, {})

    def knots(self):
        """Lists of the nodes that lead to one another, those behind others ahead of these."""
        # Tarjan's way: `low` has the number of the first node on the trail that a node leads back to.
        low, on_trail, trail, found = {}, {}, [], []
        for start in self.arcs:
            todo = [(start, None)] if start not in low else []
            while todo:
                node, left = todo.pop()
                if left is None:
                    if node in low:
                        continue
                    low[node] = len(low)
                    on_trail[node] = low[node]
                    trail.append(node)
                    todo.append((node, True))
                    todo.extend([(other, None) for other in self.arcs[node] if other not in low])
                    continue
                back = [low[other] for other in self.arcs[node] if other in on_trail]
                low[node] = min([low[node], *back])
                if low[node] == on_trail[node]:
                    found.append(knot_on(trail, node))
                    for member in found[-1]:
                        del on_trail[member]
        return found


def knot_on(trail, node):
    """Take the nodes from a node on off the end of a trail."""
    found = [trail.pop()]
    while found[-1] != node:
        found.append(trail.pop())
    return found


class Circles:
    """What the knots of a graph come to.

    The keys of `turning` are the nodes on circles, those of `strict` the nodes on circles with an arc that counts,
    and those of `leading` the nodes on circles and those that lead to such. `ranks` has for each node the greatest
    number of arcs that count on a way from it, but for those on circles.
    """

    def __init__(self, graph):
        self.turning = {}
        self.strict = {}
        self.leading = {}
        self.ranks = {}
        for knot in graph.knots():
            own = {node: True for node in knot}
            inner, leads, rank = [], False, 0
            for node in knot:
                for other, strict in graph.arcs[node].items():
                    if other in own:
                        inner.append(strict)
                    else:
                        leads = leads or other in self.leading
                        rank = max(rank, self.ranks[other] + (1 if strict else 0))
            self.ranks.update({node: rank for node in knot})
            if inner or leads:
                self.leading.update(own)
            if inner:
                self.turning.update(own)
            if any(inner):
                self.strict.update(own)
