"""The threads of ways out, found one after another."""

from mostspecial.moves import Moves, has_item, is_laying, spot_of


class Strands:
    """The threads of the ways out of some sorts, and of no others; `moves` is told of the ways that have any.

    A fact (sort, a, spot, asked, b, falls) tells that a thread (a, b, falls) leads from a sort to a spot above
    what lay below the sort's first item. So it is one of a way out if no items are left there.
    """

    def __init__(self, groups, sorts):
        self.moves = Moves(groups, {})
        self.seen = {}
        self.ended = {}
        self.waiting = {}
        self.todo = []
        for sort in sorts:
            if has_item(sort):
                self.begin(sort)
        while self.todo:
            self.go_on(self.todo.pop())

    def begin(self, sort):
        """Add the threads of what uses of a sort ask at once."""
        for ask in self.moves.grouping.asks_for(sort):
            if is_laying(sort, ask):
                spot = spot_of(sort, ask)
                for a, b, falls in self.moves.threads_by(sort, ask):
                    self.add_fact((sort, a, spot, ask[4:], b, falls))

    def add_fact(self, fact):
        """Add a fact, unless it is known."""
        if fact not in self.seen:
            self.seen[fact] = True
            self.todo.append(fact)

    def go_on(self, fact):
        """Add what comes of a fact."""
        sort, a, spot, asked, b, falls = fact
        control, stack, _ = spot
        if stack:
            top = (*control, stack[0])
            self.waiting.setdefault((top, b), []).append(fact)
            for end in self.ended.get((top, b), []):
                self.add_fact(lengthened(fact, end))
            return
        way, end = (control, asked), (control, asked, b, falls)
        self.moves.out.setdefault(sort, {}).setdefault(way, {})[(a, b, falls)] = True
        self.ended.setdefault((sort, a), []).append(end)
        for other in self.waiting.get((sort, a), []):
            self.add_fact(lengthened(other, end))


def lengthened(fact, end):
    """A fact whose thread goes on through a way out of the sort at its spot."""
    sort, a, (_, stack, below), _, _, falls = fact
    control, asked, c, falls_more = end
    return sort, a, (control, stack[1:], below), asked, c, falls or falls_more
