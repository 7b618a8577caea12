"""Which sorts are met in a view, with as few asks, or type names, as may be."""

from mostspecial.groups import groups_of
from mostspecial.ways import Queue, Ways, together


class Flow:
    """The sorts that are met: `costs` has the least cost for each fact, `first` the first fact for each sort.

    A cost is a tuple of the number of asks behind an open use, and of the least number of type names that stand
    where such a use is looked at, if what is met has no more of them than any use of its sort needs. So the open
    uses that are told are small. If it goes by names, the cost is a tuple of the number of names and 0.

    A fact is a tuple of one of these forms, in which asked is None or the word and the number that are asked
    last, and a control is a tuple of a generic and sights:
    - ("sort", sort, asked): a use of the sort;
    - ("free", control, asked): uses with any pile;
    - ("list", control, sight, asked): uses with any pile of a sight of lists;
    - ("chain", control, items, bottom, asked): uses with some items on their pile, and below them any pile of
      the sight `bottom`, none at all if this is "()", or what is of no matter here if it is None.
    """

    def __init__(self, groups, by_names):
        self.grouping = groups
        self.scope = groups.scope
        self.ways = Ways(self.grouping, by_names)
        self.queue = Queue()
        self.costs = {}
        self.origin = {}
        self.first = {}
        for generic in sorted(self.scope.openly):
            self.begin(generic)
        while self.queue.heap:
            cost, fact, back = self.queue.take()
            if fact not in self.costs:
                self.costs[fact] = cost
                self.origin[fact] = back
                self.go_on(cost, fact)

    def price(self, kind, sight):
        """The least number of type names in a term of a sight."""
        return self.scope.samples.cost(kind, sight)

    def begin(self, generic):
        """Add the open uses of a generic."""
        for plain in self.scope.rows_of_sights(generic):
            cost = self.ways.names_cost(self.scope.cost(generic, plain, []))
            if self.scope.shapes[generic].pile is None:
                self.queue.put(cost, ("sort", (generic, plain, None), None), None)
            else:
                self.queue.put(cost, ("free", (generic, plain), None), None)

    def go_on(self, cost, fact):
        """Add what comes of a fact at once."""
        head, control = fact[:2]
        if head == "sort":
            if control not in self.first:
                self.first[control] = fact
                self.add_asks(cost, fact)
        elif head == "chain":
            self.add_chain(cost, fact)
        elif head == "free":
            self.queue.put(cost, ("sort", (*control, "()"), fact[2]), (fact, None))
            for item in self.scope.sights["type"]:
                more = self.ways.names_cost(self.price("type", item))
                self.add_item(together(cost, more), fact, item, ("free", control))
        else:
            self.add_list(cost, fact)

    def add_asks(self, cost, fact):
        """Add what uses of a sort ask."""
        sort = fact[1]
        for ask, weight in self.grouping.asks_for(sort).items():
            _, generic, plain, pile, word, many = ask
            control, asked = (generic, plain), (word, many)
            if pile is None:
                new = ("sort", (generic, plain, None), asked)
            elif pile[0] == "beside":
                new = ("chain", control, pile[1], pile[2], asked)
            else:
                empty = pile[0] == "begun" or sort[2] == "()"
                new = ("chain", control, pile[1], "()" if empty else None, asked)
            self.queue.put(together(cost, self.ways.ask_cost(weight)), new, (fact, ("ask", sort, ask)))

    def add_chain(self, cost, fact):
        """Add what comes of uses with some items on their pile."""
        _, control, items, bottom, asked = fact
        if items:
            self.add_item(cost, fact, items[0], ("chain", control, items[1:], bottom))
        elif bottom == "()":
            self.queue.put(cost, ("sort", (*control, "()"), asked), (fact, None))
        elif bottom is not None:
            self.queue.put(cost, ("list", control, bottom, asked), (fact, None))

    def add_list(self, cost, fact):
        """Add what comes of uses with any pile of a sight."""
        _, control, sight, asked = fact
        if self.scope.eyes.empty_sight() == sight:
            self.queue.put(cost, ("sort", (*control, "()"), asked), (fact, None))
        for item, behinds in self.scope.splits_of(sight).items():
            for behind in behinds:
                more = self.price("type", item) + self.price("types", behind) - self.price("types", sight)
                self.add_item(together(cost, self.ways.names_cost(more)), fact, item, ("list", control, behind))

    def add_item(self, cost, fact, item, below):
        """Add uses with a first item, and those with what is below it when it is gone."""
        top = (*fact[1], item)
        self.queue.put(cost, ("sort", top, fact[-1]), (fact, None))
        for row, more in self.ways.exits[top]:
            control, asked = row
            new = (below[0], control, *below[2:], asked)
            self.queue.put(together(cost, more), new, (fact, ("way", (top, control, (), asked))))

    def steps(self, fact):
        """The tuples (sort, ask) of the asks by which a fact comes about, from an open use on."""
        parts = []
        while self.origin[fact] is not None:
            fact, step = self.origin[fact]
            if step is not None:
                parts.append(step)
        found = []
        for step in parts[::-1]:
            found.extend([step[1:]] if step[0] == "ask" else self.ways.steps(step[1]))
        return found


def flow_of(library, k, by_names):
    """The flow of a view, by asks or by type names."""
    key = ("flow", k, by_names)
    if key not in library.kept:
        library.kept[key] = Flow(groups_of(library, k), by_names)
    return library.kept[key]
