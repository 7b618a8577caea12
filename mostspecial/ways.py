"""The ways by which the first item of a pile is laid aside, with as few asks, or type names, as may be."""

from heapq import heappop, heappush


class Queue:
    """Facts that are still to be looked at, those of the least cost first; of equal costs, the oldest."""

    def __init__(self):
        self.heap = []
        self.many = 0
        self.best = {}

    def put(self, cost, fact, back):
        """Add a fact with its cost, and with what it comes from, unless it has been added at no greater cost."""
        if fact not in self.best or cost < self.best[fact]:
            self.best[fact] = cost
            heappush(self.heap, (cost, self.many, fact, back))
            self.many += 1

    def take(self):
        """Take the next fact: a tuple (cost, fact, back)."""
        cost, _, fact, back = heappop(self.heap)
        return cost, fact, back


def together(one, other):
    """The sum of two costs."""
    return one[0] + other[0], one[1] + other[1]


class Ways:
    """For each sort with a first item, how uses come to where this item is gone and those below it are left.

    A *control* is a tuple of a generic and sights; an *exit* is a control with the word and the number by which
    it is asked last. A fact tells that a use of a sort leads to a control with some items on top of what lay
    below the first item: it is a tuple (sort, control, items), or (sort, control, (), asked) for an exit.
    A cost is a tuple of the number of asks and one of type names, of which the first one counts before the other;
    if it goes by names, it is a tuple of the number of type names and 0.
    """

    def __init__(self, groups, by_names):
        self.grouping = groups
        self.by_names = by_names
        self.origin = {}
        self.exits = {}
        self.waiting = {}
        self.queue = Queue()
        for generic in sorted(groups.scope.shapes):
            if groups.scope.shapes[generic].pile is not None:
                for sort in groups.scope.sorts_of(generic):
                    self.begin(sort)
        while self.queue.heap:
            self.go_on()

    def ask_cost(self, weight):
        """What an ask of a weight costs."""
        return (weight, 0) if self.by_names else (1, weight)

    def names_cost(self, many):
        """What type names cost."""
        return (many, 0) if self.by_names else (0, many)

    def begin(self, sort):
        """Add what uses of a sort ask at once."""
        if sort[2] == "()":
            return
        self.exits[sort] = []
        for ask, weight in self.grouping.asks_for(sort).items():
            _, generic, plain, pile, word, many = ask
            if pile is not None and pile[0] == "laid":
                self.add_fact(self.ask_cost(weight), sort, ((generic, plain), (word, many)), pile[1], ("ask", ask))

    def add_fact(self, cost, sort, exit_row, items, back):
        """Add a fact: an exit and what is left on top of it."""
        control, asked = exit_row
        fact = (sort, control, items) if items else (sort, control, (), asked)
        if fact not in self.origin:
            self.queue.put(cost, fact, back)

    def go_on(self):
        """Look at the next fact."""
        cost, fact, back = self.queue.take()
        if fact in self.origin:
            return
        self.origin[fact] = back
        sort, control, items = fact[:3]
        if not items:
            row = (control, fact[3])
            self.exits[sort].append((row, cost))
            for other, before in self.waiting.get(sort, []):
                self.add_fact(together(before, cost), other[0], row, other[2][1:], ("way", other, fact))
            return
        top = (*control, items[0])
        self.waiting.setdefault(top, []).append((fact, cost))
        for row, more in list(self.exits[top]):
            self.add_fact(together(cost, more), sort, row, items[1:], ("way", fact, (top, row[0], (), row[1])))

    def steps(self, fact):
        """The tuples (sort, ask) of the asks by which a fact comes about."""
        todo, found = [fact], []
        while todo:
            part = todo.pop()
            head, what, *behind = self.origin[part]
            if head == "ask":
                found.append((part[0], what))
            else:
                todo.append(behind[0])
                todo.append(what)
        return found
