"""Parts of papers: whether values have their form, and what they say."""

from mostspecial.groups import groups_of
from mostspecial.moves import Moves, has_item
from mostspecial.terms import is_whole, is_word


def followed(groups, sort):
    """What is followed in a sort: its carried places, that of its pile, and the constants of its choices."""
    found = {place: True for place in places_followed(groups.scope.shapes[sort[0]])}
    for group in groups.groups_for(sort):
        if group.chosen is not None:
            found.update({word: True for word in group.chosen.definition.constant_words()})
    return list(found)


def places_followed(shape):
    """The places of a generic that are carried or of the kind pile."""
    return [*shape.carried, *shape.piles]


def is_named(value, names):
    """Whether a value is one of some places and words."""
    return (is_whole(value) or isinstance(value, str)) and value in names


class Part:
    """The part of a paper for a view, once it is read.

    `numbers` has for each sort that it holds the numbers of what is followed there, `moves` the ways of each.
    """

    def __init__(self, library, k):
        self.grouping = groups_of(library, k)
        self.scope = self.grouping.scope
        self.moves = Moves(self.grouping, {})
        self.numbers = {}

    def reads(self, rows):
        """Read the rows of a part, and tell whether they have the form of such."""
        return isinstance(rows, tuple) and all([self.reads_row(row) for row in rows])

    def reads_row(self, row):
        """Read a row, and tell whether it has the form of one."""
        if not isinstance(row, tuple) or len(row) != 3:
            return False
        sort, ways, numbers = row
        if not self.scope.is_sort(sort) or sort in self.numbers:
            return False
        names = followed(self.grouping, sort)
        self.numbers[sort] = read_numbers(numbers, names)
        self.moves.out[sort] = self.read_ways(sort, ways, names)
        return self.numbers[sort] is not None and self.moves.out[sort] is not None

    def read_ways(self, sort, ways, names):
        """The ways of a row with their threads, or None."""
        if not isinstance(ways, tuple) or len(ways) > 0 and not has_item(sort):
            return None
        found = {}
        for way in ways:
            if not isinstance(way, tuple) or len(way) != 5:
                return None
            generic, plain, word, many, threads = way
            if not self.scope.is_sort((generic, plain, "()")) or not is_word(word) or not is_whole(many) or many < -1:
                return None
            key = ((generic, plain), (word, many))
            ends = [*places_followed(self.scope.shapes[generic]), *([word] if many == -1 else [])]
            row = read_threads(threads, names, ends)
            if key in found or row is None:
                return None
            found[key] = row
        return found


def read_numbers(numbers, names):
    """The numbers of all that is followed in a sort, or None."""
    if not isinstance(numbers, tuple) or len(numbers) != len(names):
        return None
    found = {}
    for row in numbers:
        if not isinstance(row, tuple) or len(row) != 2 or not is_named(row[0], names) or row[0] in found:
            return None
        if not is_whole(row[1]) or row[1] < 0:
            return None
        found[row[0]] = row[1]
    return found


def read_threads(threads, names, ends):
    """The threads of a way from what is followed in a sort to some ends, as the keys of a dict, or None."""
    if not isinstance(threads, tuple):
        return None
    found = {}
    for thread in threads:
        if not isinstance(thread, tuple) or len(thread) != 3:
            return None
        a, b, falls = thread
        if not is_named(a, names) or not is_named(b, ends) or not isinstance(falls, bool) or thread in found:
            return None
        found[thread] = True
    return found
