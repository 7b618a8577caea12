"""Papers: finite tables that show that all uses of a library go well."""

from mostspecial.apart import check_library
from mostspecial.circles import Graph
from mostspecial.ends import Ends
from mostspecial.moves import has_item, is_laying, spot_of
from mostspecial.pairs import pair_of
from mostspecial.parts import Part
from mostspecial.threads import told
from mostspecial.walks import falls_at, tendency, thread_leads


def is_paper(library, value):
    """Whether a value is a paper of a library."""
    check_library(library)
    if not isinstance(value, tuple) or len(value) != len(library.views):
        return False
    parts = []
    for k, rows in enumerate(value):
        part = Part(library, k)
        if not part.reads(rows) or not Check(part).holds():
            return False
        parts.append(part)
    return all([agree(library, k, j, parts) for j in range(len(parts)) for k in range(j)])


def agree(library, k, j, parts):
    """Whether no use of two views, of a sort that the parts of both hold, has unlike choices in them."""
    pair = pair_of(library, k, j)
    shared = [sort for sort in parts[k].numbers if sort in parts[j].numbers]
    return not any([bool(pair.unlike_groups(sort)) for sort in shared])


class Check:
    """Whether what a part of a paper says is so."""

    def __init__(self, part):
        self.grouping = part.grouping
        self.scope = part.scope
        self.moves = part.moves
        self.numbers = part.numbers
        self.ends = Ends(part.moves)

    def holds(self):
        """Whether what the part says is so."""
        if not all([self.has_choices(sort) for sort in self.numbers]):
            return False
        if not self.holds_open_uses() or not self.holds_open_ways() or not self.holds_asked():
            return False
        return all([self.keeps_ways(sort) for sort in self.numbers]) and self.keeps_numbers()

    def has_choices(self, sort):
        """Whether each use of a sort has a choice."""
        return all([group.chosen is not None for group in self.grouping.groups_for(sort)])

    def can_be_asked(self, sort, asked):
        """Whether a sort is held, and each choice of its uses has a member."""
        if sort not in self.numbers:
            return False
        return all([group.chosen.definition.has(*asked) for group in self.grouping.groups_for(sort)])

    def holds_asked(self):
        """Whether the part holds all to which edges lead."""
        todo = [(spot_of(sort, ask), ask[4:]) for sort in self.numbers for ask in self.grouping.asks_for(sort)]
        seen, gone = {row: True for row in todo}, {}
        while todo:
            spot, asked = todo.pop()
            if not all([self.can_be_asked(top, asked) for top, left in self.moves.tops(spot)]):
                return False
            if spot in gone:
                continue
            gone[spot] = True
            for other, asked_next, _ in self.moves.leads(spot):
                if (other, asked_next) not in seen:
                    seen[(other, asked_next)] = True
                    todo.append((other, asked_next))
        return True

    def keeps_ways(self, sort):
        """Whether the ends of all that uses of a sort ask by what they lay are ways of it, with their threads."""
        if not has_item(sort):
            return True
        row = self.moves.out[sort]
        for ask in self.grouping.asks_for(sort):
            if is_laying(sort, ask):
                ends = self.ends.all_ends(spot_of(sort, ask), ask[4:])
                if not all([way in row for way in ends]):
                    return False
                for thread in told(self.moves.threads_by(sort, ask)):
                    rows = self.ends.threads_on(spot_of(sort, ask), ask[4:], thread)
                    if not all([new in row[way] for way, new in rows]):
                        return False
        return True

    def keeps_numbers(self):
        """Whether the numbers of all that is followed fit the threads of all edges."""
        graph, first = Graph(), []
        for sort in self.numbers:
            for ask in self.grouping.asks_for(sort):
                for thread in told(self.moves.threads_by(sort, ask)):
                    node = (spot_of(sort, ask), thread[1], tendency(self.scope, sort, thread))
                    first.append((self.numbers[sort][thread[0]], node))
        self.add_arcs(graph, [node for number, node in first])
        needs = self.needs_of(graph)
        return all([number >= needs[node] for number, node in first])

    def add_arcs(self, graph, nodes):
        """Add some nodes of threads at spots to a graph, and all to which they lead."""
        todo = list({node: True for node in nodes})
        graph.add_nodes(todo)
        while todo:
            node = todo.pop()
            for other in thread_leads(self.moves, node):
                if other not in graph.arcs:
                    todo.append(other)
                graph.lead(node, other, False)

    def needs_of(self, graph):
        """For each node of a graph the least number that the beginning of a thread must have to come there."""
        needs = {}
        for knot in graph.knots():
            need = 0
            for spot, b, how in knot:
                fall = 1 if falls_at(spot, how) else 0
                need = max([need, *[self.numbers[top][b] + fall for top, left in self.moves.tops(spot)]])
                ahead = [other for other in graph.arcs[(spot, b, how)] if other in needs]
                need = max([need, *[needs[other] for other in ahead]])
            needs.update({node: need for node in knot})
        return needs

    def holds_open_uses(self):
        """Whether the part holds the sorts of all open uses."""
        return all([sort in self.numbers for generic in self.scope.openly for sort in self.scope.sorts_of(generic)])

    def holds_open_ways(self):
        """Whether the part holds all to which the ways of open uses lead, with any piles."""
        todo = [way for sort in self.numbers if sort[0] in self.scope.openly for way in self.moves.ways_out(sort)]
        seen = {way: True for way in todo}
        while todo:
            control, asked = todo.pop()
            for first in ["()", *self.scope.sights["type"]]:
                sort = (*control, first)
                if not self.can_be_asked(sort, asked):
                    return False
                more = [way for way in self.moves.ways_out(sort) if way not in seen]
                seen.update({way: True for way in more})
                todo.extend(more)
        return True
