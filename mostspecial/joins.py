"""Terms with shared parts that are made equal, step by step: the work behind meets."""

from mostspecial.terms import head_of
from mostspecial.ties import Ties

LIST_LABELS = (",", "()")


class Joins:
    """Nodes that stand for types and lists, with those that have been made equal held together.

    A node has a label and nodes below it, or neither if it is a variable. A type has its name as its label
    and its args below it; a list has "," with its first item and the list behind this, or "()". So terms
    that share parts stay small even where, written out, they would be far too long.
    Terms of the kind num are told by Ties. A place is a tuple of a kind, and a node or a place of Ties.
    """

    def __init__(self):
        self.up = []
        self.labels = []
        self.below = []
        self.ties = Ties()
        self.failed = False

    def node(self, label, below):
        """A new node."""
        self.up.append(None)
        self.labels.append(label)
        self.below.append(below)
        return len(self.up) - 1

    def top(self, node):
        """The node that stands for all those that are held together with a node."""
        while self.up[node] is not None:
            above = self.up[node]
            # A shorter way for the next time keeps long chains from being walked again and again.
            if self.up[above] is not None:
                self.up[node] = self.up[above]
            node = above
        return node

    def laid(self, pattern):
        """The places of a pattern, whose variables become new ones."""
        own = {}
        return [self.place(term, own) for term in pattern]

    def place(self, term, own):
        """The place of a term; `own` has what stands for the variables of its pattern."""
        head = head_of(term)
        if head == "int":
            return ("num", (None, 0, term))
        if head == "form":
            if term[2] not in own:
                own[term[2]] = self.ties.free()
            return ("num", (own[term[2]], term[1], term[3]))
        if head != "list":
            return ("type", self.type_node(term, own))
        node = self.node("()", ()) if term[2] is None else self.own_node(term[2], own)
        for item in term[1][::-1]:
            node = self.node(",", (self.type_node(item, own), node))
        return ("types", node)

    def own_node(self, variable, own):
        """The node of a variable of a pattern."""
        if variable not in own:
            own[variable] = self.node(None, ())
        return own[variable]

    def type_node(self, term, own):
        """The node of a type."""
        todo, done = [(term, False)], []
        while todo:
            part, ready = todo.pop()
            if part[0] == "var":
                done.append(self.own_node(part[1], own))
            elif part[2] and not ready:
                todo.append((part, True))
                todo.extend([(arg, False) for arg in part[2][::-1]])
            else:
                first = len(done) - len(part[2])
                args = tuple(done[first:])
                del done[first:]
                done.append(self.node(part[1], args))
        return done[0]

    def unite(self, places, others):
        """Make places equal, each to the one at the same index."""
        for (kind, one), (_, other) in zip(places, others):
            if kind == "num":
                self.failed = self.failed or not self.ties.unite(one, other)
            else:
                self.unite_nodes(one, other)

    def unite_nodes(self, one, other):
        """Make two nodes equal."""
        todo = [(one, other)]
        while todo and not self.failed:
            left, right = todo.pop()
            left, right = self.top(left), self.top(right)
            if left == right:
                continue
            if self.labels[left] is None:
                left, right = right, left
            self.up[right] = left
            if self.labels[right] is not None:
                self.failed = not self.same_outside(left, right)
                todo.extend(list(zip(self.below[left], self.below[right])))

    def same_outside(self, left, right):
        """Whether two nodes have the same label and as many nodes below them."""
        if self.labels[left] != self.labels[right]:
            return False
        return len(self.below[left]) == len(self.below[right])

    def results(self, places):
        """The terms at places, with any names of variables; None if they cannot be made equal."""
        if self.failed:
            return None
        order = self.order([node for kind, node in places if kind != "num"])
        if order is None:
            return None
        types = {}
        for node in order:
            if self.labels[node] is None:
                types[node] = ("var", f"t{node}")
            elif self.labels[node] not in LIST_LABELS:
                args = tuple([types[self.top(below)] for below in self.below[node]])
                types[node] = ("type", self.labels[node], args)
        return tuple([self.term(kind, told, types) for kind, told in places])

    def order(self, nodes):
        """All nodes that stand in some nodes, each behind those below it; None if one is below itself."""
        begun, ended = {}, {}
        todo = [(self.top(node), False) for node in nodes]
        while todo:
            node, ready = todo.pop()
            if ready:
                ended[node] = True
            elif node not in begun:
                begun[node] = True
                todo.append((node, True))
                todo.extend([(self.top(below), False) for below in self.below[node]])
            elif node not in ended:
                return None
        return list(ended)

    def term(self, kind, told, types):
        """The term at a place; `types` has those of the nodes that stand for types."""
        if kind == "num":
            return self.ties.term(told)
        node = self.top(told)
        if kind == "type":
            return types[node]
        items = []
        while self.labels[node] == ",":
            item, node = [self.top(below) for below in self.below[node]]
            items.append(types[item])
        return ("list", tuple(items), f"t{node}" if self.labels[node] is None else None)
