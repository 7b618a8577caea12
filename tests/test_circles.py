"""Circles in graphs: which nodes are on circles, and how many arcs that count lie ahead of a node."""

import itertools
import random
import unittest

from mostspecial.circles import Circles, Graph
from tests.tools import NarrowStack


def graph_of(arcs, nodes=()):
    """A graph with arcs (node, other, strict)."""
    graph = Graph()
    graph.add_nodes(nodes)
    for node, other, strict in arcs:
        graph.lead(node, other, strict)
    return graph


def reached(arcs, node):
    """The nodes to which arcs lead from a node, one or more of them."""
    found, todo = set(), [node]
    while todo:
        at = todo.pop()
        more = [other for one, other, _ in arcs if one == at and other not in found]
        found.update(more)
        todo.extend(more)
    return found


def longest(arcs, node, circling):
    """The greatest number of arcs that count on a way from a node none of whose nodes lies on a circle."""
    if node in circling:
        return 0
    return max([0, *[longest(arcs, other, circling) + strict for one, other, strict in arcs if one == node]])


class TestCircles(unittest.TestCase):
    def test_knots(self):
        graph = graph_of([(1, 2, False), (2, 1, False), (2, 3, False), (4, 1, False), (3, 5, True)], nodes=[6, 1])
        knots = graph.knots()
        self.assertEqual([[1, 2], [3], [4], [5], [6]], sorted(sorted(knot) for knot in knots))
        place = {node: at for at, knot in enumerate(knots) for node in knot}
        self.assertTrue(place[5] < place[3] < place[1] < place[4])

    def test_arcs_between_the_same_nodes(self):
        for rows in itertools.product([False, True], repeat=3):
            circles = Circles(graph_of([(1, 2, strict) for strict in rows]))
            self.assertEqual({1: int(any(rows)), 2: 0}, circles.ranks)

    def test_leading(self):
        for order in itertools.permutations([(1, 2, False), (1, 3, False), (2, 2, False), (3, 4, True)]):
            circles = Circles(graph_of(order))
            self.assertEqual([[2], [], [1, 2], 1], [sorted(circles.turning), sorted(circles.strict), sorted(circles.leading), circles.ranks[3]])

    def test_by_chance(self):
        chance = random.Random(175)
        for _ in range(1500):
            many = chance.randrange(1, 7)
            arcs = [(chance.randrange(many), chance.randrange(many), chance.random() < 0.3) for _ in range(chance.randrange(2 * many))]
            circles = Circles(graph_of(arcs, nodes=range(many)))
            ways = {node: reached(arcs, node) for node in range(many)}
            turning = {node for node in ways if node in ways[node]}
            strict = {node for node in turning if any(strict and one in ways[node] and other in ways[node] and node in ways[other] for one, other, strict in arcs)}
            self.assertEqual(turning, set(circles.turning))
            self.assertEqual(strict, set(circles.strict))
            self.assertEqual({node for node in ways if node in turning or ways[node] & turning}, set(circles.leading))
            for node in ways:
                if not ways[node] & turning:
                    self.assertEqual(longest(arcs, node, turning), circles.ranks[node])

    def test_a_long_trail(self):
        rows = [(node, node + 1, True) for node in range(5000)]
        with NarrowStack():
            self.assertEqual(5000, Circles(graph_of(rows)).ranks[0])
            self.assertEqual(5001, len(Circles(graph_of([*rows, (5000, 0, False)])).strict))


if __name__ == "__main__":
    unittest.main()
