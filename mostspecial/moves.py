"""Edges: to which sorts the uses of a sort lead, through ways out of what they lay on piles."""

from mostspecial.threads import led_on, threads_of


class Edge:
    """An edge to a sort, which is asked there for a member: a tuple (word, many).

    So many items `stay` laid along it, and the keys of the dict `threads` are its threads.
    """

    def __init__(self, sort, asked, stay, threads):
        self.sort = sort
        self.member = asked
        self.stay = stay
        self.threads = threads


class Moves:
    """The edges of a view by the ways out of its sorts.

    A *way* is a tuple (control, asked), of a generic with sights and of a word and a number. `out` has for each
    sort with a first item a dict from its ways to their threads, which are keys of dicts.
    """

    def __init__(self, groups, out):
        self.grouping = groups
        self.scope = groups.scope
        self.out = out
        self.found = {}

    def threads_by(self, sort, ask):
        """The threads of an ask of a sort."""
        if (sort, ask) not in self.found:
            self.found[(sort, ask)] = threads_of(self.grouping, sort, ask)
        return self.found[(sort, ask)]

    def ways_out(self, sort):
        """The ways out of a sort with a first item."""
        return self.out.get(sort, {})

    def by_ask(self, sort, ask):
        """The edges by an ask of a sort, and its ends: a dict as those of `out`."""
        _, generic, plain, pile, word, many = ask
        asked, threads = (word, many), self.threads_by(sort, ask)
        if pile is None:
            return [Edge((generic, plain, None), asked, 0, threads)], {}
        edges, ends = [], {((generic, plain), asked): threads}
        for k, item in enumerate(pile[1]):
            stay = len(pile[1]) - 1 - k if pile[0] == "laid" else 0
            edges.extend(edges_on(ends, item, stay))
            ends = self.over(ends, item)
        if pile[0] == "beside":
            edges.extend(self.into_list(ends, pile[2]))
        elif pile[0] == "begun" or sort[2] == "()":
            edges.extend(edges_on(ends, "()", 0))
        return edges, ends

    def over(self, ways, item):
        """The ways that go on from some ways with an item on top, when this is gone."""
        found = {}
        for (control, _), threads in ways.items():
            for way, more in self.ways_out((*control, item)).items():
                found.setdefault(way, {}).update(led_on(threads, more))
        return found

    def into_list(self, ways, sight):
        """The edges from some ways to uses with any list of a sight as their pile."""
        known, todo = {}, []
        add_ways(known, todo, ways, sight)
        while todo:
            way, left = todo.pop()
            for item, behinds in self.scope.splits_of(left).items():
                more = self.over({way: known[(way, left)]}, item)
                for behind in behinds:
                    add_ways(known, todo, more, behind)
        edges = []
        for (way, left), threads in known.items():
            if left == self.scope.eyes.empty_sight():
                edges.extend(edges_on({way: threads}, "()", 0))
            for item in self.scope.splits_of(left):
                edges.extend(edges_on({way: threads}, item, 0))
        return edges

    def edges_of(self, sort):
        """All edges from a sort."""
        return [edge for ask in self.grouping.asks_for(sort) for edge in self.by_ask(sort, ask)[0]]

    def ends_of(self, sort):
        """The ends of all asks with "laid" of a sort with a first item, and the sorts that these asks reach."""
        ends, reached = {}, {}
        for ask in self.grouping.asks_for(sort):
            if ask[3] is not None and ask[3][0] == "laid":
                edges, more = self.by_ask(sort, ask)
                reached.update({edge.sort: True for edge in edges})
                for way, threads in more.items():
                    ends.setdefault(way, {}).update(threads)
        return ends, list(reached)


def edges_on(ways, item, stay):
    """The edges to the sorts of some ways with a first item, or with "()" for the empty pile."""
    return [Edge((*control, item), asked, stay, threads) for (control, asked), threads in ways.items()]


def add_ways(known, todo, ways, sight):
    """Note some ways above any list of a sight; those with threads that are new go to what is to be looked at."""
    for way, threads in ways.items():
        key = (way, sight)
        before = known.get(key)
        if before is None or not all([thread in before for thread in threads]):
            known[key] = {**threads, **(before or {})}
            todo.append(key)


def find_ways(groups, sorts):
    """The moves by the ways out of some sorts, and by no others; they have all sorts to which edges lead."""
    moves = Moves(groups, {})
    todo = [sort for sort in sorts if sort[2] is not None and sort[2] != "()"]
    waiting = {sort: True for sort in todo}
    users = {sort: {} for sort in todo}
    while todo:
        sort = todo.pop()
        waiting[sort] = False
        ends, reached = moves.ends_of(sort)
        for other in reached:
            users[other][sort] = True
        if count_threads(ends) > count_threads(moves.ways_out(sort)):
            moves.out[sort] = ends
            for user in users[sort]:
                if not waiting[user]:
                    waiting[user] = True
                    todo.append(user)
    return moves


def count_threads(ways):
    """How many ways and threads there are."""
    return sum([1 + len(threads) for threads in ways.values()])
