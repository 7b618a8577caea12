"""Papers that are changed: by chance, or at each place in turn."""

from mostspecial.scopes import scope_of
from mostspecial.steps import outcomes


def places_followed(shape):
    return [*shape.carried, *shape.piles]


class Changer:
    """What changes the rows of a part, which keeps its form."""

    KINDS = ["drop", "number", "number", "number", "way more", "way less", "thread more", "thread more", "thread less", "row more", "all more", "double"]

    def __init__(self, chance, library, k):
        self.chance, self.library, self.k = chance, library, k
        self.scope = scope_of(library, k)
        self.sorts = [sort for generic in self.scope.shapes for sort in self.scope.sorts_of(generic)]
        self.ends = [sort for sort in self.sorts if sort[2] == "()"]

    def changed(self, part):
        self.rows = [list(row) for row in part]
        for _ in range(self.chance.choice([0, 1, 1, 1, 2, 3])):
            if self.rows:
                self.change(self.chance.choice(self.KINDS))
        return tuple(tuple(row) for row in self.rows)

    def change(self, kind):
        row = self.chance.choice(self.rows)
        laid = [other for other in self.rows if other[1]]
        if kind == "drop":
            self.rows.remove(row)
        elif kind == "number" and row[2]:
            at = self.chance.randrange(len(row[2]))
            a, number = row[2][at]
            row[2] = (*row[2][:at], (a, max(0, number + self.chance.choice([-1, 1, 1, 2, 5]))), *row[2][at + 1:])
        elif kind in ("all more", "double"):
            for other in self.rows:
                other[2] = tuple((a, 2 * number if kind == "double" else number + 1) for a, number in other[2])
        elif kind == "way more":
            self.add_way([other for other in self.rows if other[0][2] not in (None, "()")])
        elif kind == "row more":
            self.add_row()
        elif laid:
            self.change_way(kind, self.chance.choice(laid))

    def add_way(self, rows):
        told = [way[:4] for row in self.rows for way in row[1]]
        if not rows:
            return
        row = self.chance.choice(rows)
        way = self.chance.choice(told) if told and self.chance.random() < 0.6 else None
        if way is None:
            sort = self.chance.choice(self.ends)
            way = (sort[0], sort[1], self.chance.choice(["v", "go", "w"]), self.chance.choice([-1, 1]))
        if way not in [other[:4] for other in row[1]]:
            row[1] = (*row[1], (*way, ()))

    def change_way(self, kind, row):
        at = self.chance.randrange(len(row[1]))
        way = row[1][at]
        threads = list(way[4])
        if kind == "way less":
            row[1] = (*row[1][:at], *row[1][at + 1:])
            return
        if kind == "thread less" and threads:
            threads.pop(self.chance.randrange(len(threads)))
        elif kind == "thread more":
            ends = [*places_followed(self.scope.shapes[way[0]]), *([way[2]] if way[3] == -1 else [])]
            thread = (self.chance.choice(row[2])[0], self.chance.choice(ends), self.chance.random() < 0.5)
            threads.extend([] if thread in threads else [thread])
        row[1] = (*row[1][:at], (*way[:4], tuple(threads)), *row[1][at + 1:])

    def add_row(self):
        held = [row[0] for row in self.rows]
        left = [sort for sort in self.sorts if sort not in held]
        if left:
            sort = self.chance.choice(left)
            numbers = tuple((a, self.chance.choice([0, 0, 1, 3])) for a in followed(self.library, self.k, sort))
            self.rows.append([sort, (), numbers])


def followed(library, k, sort):
    """What is followed in a sort."""
    marks = outcomes(library, k, sort)[0]
    definitions = [row for row in library.definitions_of(k) if row.mark in marks]
    words = {member[1] for row in definitions for member in row.members if member[0] == "const"}
    return [*places_followed(scope_of(library, k).shapes[sort[0]]), *sorted(words)]


def with_one_less(value):
    """All values in which one item of a tuple is left out, at any depth."""
    if isinstance(value, tuple):
        for at, item in enumerate(value):
            yield (*value[:at], *value[at + 1:])
            for other in with_one_less(item):
                yield (*value[:at], other, *value[at + 1:])


def with_one_doubled(value):
    """All values in which one item of a tuple stands twice, at any depth."""
    if isinstance(value, tuple):
        for at, item in enumerate(value):
            yield (*value[:at + 1], *value[at:])
            for other in with_one_doubled(item):
                yield (*value[:at], other, *value[at + 1:])


def with_one_swapped(value):
    """All values in which two items of a tuple that stand side by side have changed places, at any depth."""
    if isinstance(value, tuple):
        for at, item in enumerate(value):
            if at + 1 < len(value):
                yield (*value[:at], value[at + 1], item, *value[at + 2:])
            for other in with_one_swapped(item):
                yield (*value[:at], other, *value[at + 1:])


def with_one_replaced(value, news):
    """All values in which one part is replaced by another one, of those that a function tells."""
    yield from news(value)
    if isinstance(value, tuple):
        for at, item in enumerate(value):
            for other in with_one_replaced(item, news):
                yield (*value[:at], other, *value[at + 1:])


def in_order(paper):
    """A paper with its rows, ways, threads and numbers in one order."""
    return [sorted((repr(sort), sorted((way[:4], sorted(map(repr, way[4]))) for way in ways), sorted(map(repr, numbers))) for sort, ways, numbers in part) for part in paper]
