"""Papers: finite tables that show that all uses of a library go well."""

from mostspecial.apart import check_library
from mostspecial.groups import groups_of
from mostspecial.moves import Moves
from mostspecial.pairs import pair_of
from mostspecial.terms import is_whole, is_word


def is_paper(library, value):
    """Whether a value is a paper of a library."""
    check_library(library)
    if not isinstance(value, tuple) or len(value) != len(library.views):
        return False
    parts = []
    for k, rows in enumerate(value):
        part = Part(library, k)
        if not part.reads(rows) or not part.holds():
            return False
        parts.append(part)
    return all([agree(library, k, j, parts) for j in range(len(parts)) for k in range(j)])


def agree(library, k, j, parts):
    """Whether no use of two views, of a sort that the parts of both hold, has unlike choices in them."""
    pair = pair_of(library, k, j)
    shared = [sort for sort in parts[k].numbers if sort in parts[j].numbers and sort[0] in pair.scope.shapes]
    return not any([bool(pair.unlike_groups(sort)) for sort in shared])


def followed(groups, sort):
    """What is followed in a sort: its carried places, that of its pile, and the constants of its choices."""
    found = {place: True for place in places_followed(groups.scope.shapes[sort[0]])}
    for group in groups.groups_for(sort):
        if group.chosen is not None:
            found.update({word: True for word in group.chosen.definition.constant_words()})
    return list(found)


def places_followed(shape):
    """The places of a generic that are carried or of the kind pile."""
    return [*shape.carried, *shape.piles]


def is_named(value, names):
    """Whether a value is one of some places and words."""
    return (is_whole(value) or isinstance(value, str)) and value in names


def has_pile_item(sort):
    """Whether the uses of a sort have an item on their pile."""
    return sort[2] is not None and sort[2] != "()"


class Part:
    """The part of a paper for a view, once it is read.

    `numbers` has for each sort that it holds the numbers of what is followed there, `moves` the ways of each.
    """

    def __init__(self, library, k):
        self.grouping = groups_of(library, k)
        self.scope = self.grouping.scope
        self.moves = Moves(self.grouping, {})
        self.numbers = {}

    def reads(self, rows):
        """Read the rows of a part, and tell whether they have the form of such."""
        return isinstance(rows, tuple) and all([self.reads_row(row) for row in rows])

    def reads_row(self, row):
        """Read a row, and tell whether it has the form of one."""
        if not isinstance(row, tuple) or len(row) != 3:
            return False
        sort, ways, numbers = row
        if not self.scope.is_sort(sort) or sort in self.numbers:
            return False
        names = followed(self.grouping, sort)
        self.numbers[sort] = read_numbers(numbers, names)
        self.moves.out[sort] = self.read_ways(sort, ways, names)
        return self.numbers[sort] is not None and self.moves.out[sort] is not None

    def read_ways(self, sort, ways, names):
        """The ways of a row with their threads, or None."""
        if not isinstance(ways, tuple) or len(ways) > 0 and not has_pile_item(sort):
            return None
        found = {}
        for way in ways:
            if not isinstance(way, tuple) or len(way) != 5:
                return None
            generic, plain, word, many, threads = way
            if not self.scope.is_sort((generic, plain, "()")) or not is_word(word) or not is_whole(many) or many < -1:
                return None
            key = ((generic, plain), (word, many))
            ends = [*places_followed(self.scope.shapes[generic]), *([word] if many == -1 else [])]
            row = read_threads(threads, names, ends)
            if key in found or row is None:
                return None
            found[key] = row
        return found

    def holds(self):
        """Whether what the part says is so."""
        if not all([self.has_choices(sort) for sort in self.numbers]):
            return False
        if not all([self.keeps_asks(sort) for sort in self.numbers]):
            return False
        return self.holds_open_uses() and self.holds_open_ways()

    def has_choices(self, sort):
        """Whether each use of a sort has a choice."""
        return all([group.chosen is not None for group in self.grouping.groups_for(sort)])

    def can_be_asked(self, sort, asked):
        """Whether a sort is held, and each choice of its uses has a member."""
        if sort not in self.numbers:
            return False
        return all([group.chosen.definition.has(*asked) for group in self.grouping.groups_for(sort)])

    def keeps_asks(self, sort):
        """Whether the part holds all to which edges lead from a sort, with ways and numbers as they must be."""
        for ask in self.grouping.asks_for(sort):
            edges, ends = self.moves.by_ask(sort, ask)
            if not all([self.keeps_edge(sort, edge) for edge in edges]):
                return False
            laid = ask[3] is not None and ask[3][0] == "laid"
            if laid and has_pile_item(sort) and not all([self.has_way(sort, way, ends[way]) for way in ends]):
                return False
        return True

    def keeps_edge(self, sort, edge):
        """Whether the part holds the sort to which an edge leads, with numbers that fit its threads."""
        if not self.can_be_asked(edge.sort, edge.member):
            return False
        pile = self.scope.shapes[sort[0]].pile
        for a, b, falls in told(edge.threads):
            less = falls or edge.stay > 0 and a == pile
            if self.numbers[edge.sort][b] > self.numbers[sort][a] - (1 if less else 0):
                return False
        return True

    def has_way(self, sort, way, threads):
        """Whether a sort has a way with some threads."""
        row = self.moves.out[sort].get(way)
        return row is not None and all([thread in row for thread in told(threads)])

    def holds_open_uses(self):
        """Whether the part holds the sorts of all open uses."""
        return all([sort in self.numbers for generic in self.scope.openly for sort in self.scope.sorts_of(generic)])

    def holds_open_ways(self):
        """Whether the part holds all to which the ways of open uses lead, with any piles."""
        todo = [way for sort in self.numbers if sort[0] in self.scope.openly for way in self.moves.ways_out(sort)]
        seen = {way: True for way in todo}
        while todo:
            control, asked = todo.pop()
            for first in ["()", *self.scope.sights["type"]]:
                sort = (*control, first)
                if not self.can_be_asked(sort, asked):
                    return False
                more = [way for way in self.moves.ways_out(sort) if way not in seen]
                seen.update({way: True for way in more})
                todo.extend(more)
        return True


def told(threads):
    """The threads that papers tell: not the one that tells just that an ask is still."""
    return [thread for thread in threads if thread[0] is not None]


def read_numbers(numbers, names):
    """The numbers of all that is followed in a sort, or None."""
    if not isinstance(numbers, tuple) or len(numbers) != len(names):
        return None
    found = {}
    for row in numbers:
        if not isinstance(row, tuple) or len(row) != 2 or not is_named(row[0], names) or row[0] in found:
            return None
        if not is_whole(row[1]) or row[1] < 0:
            return None
        found[row[0]] = row[1]
    return found


def read_threads(threads, names, ends):
    """The threads of a way from what is followed in a sort to some ends, as the keys of a dict, or None."""
    if not isinstance(threads, tuple):
        return None
    found = {}
    for thread in threads:
        if not isinstance(thread, tuple) or len(thread) != 3:
            return None
        a, b, falls = thread
        if not is_named(a, names) or not is_named(b, ends) or not isinstance(falls, bool) or thread in found:
            return None
        found[thread] = True
    return found
