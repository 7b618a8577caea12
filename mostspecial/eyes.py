"""Looks, and the sights that they give to closed terms."""

from math import lcm

from mostspecial.matches import bare, put_in
from mostspecial.meetings import meetings
from mostspecial.terms import head_of, is_closed, pieces, variables
from mostspecial.termtexts import write_term


def blank(term):
    """A term with variables that have no names."""
    return put_in(term, {variable: bare("", kind) for variable, kind in variables((term,))})


def look_rows(library):
    """The tuples (kind, term) of the terms from which all looks are taken."""
    found = []
    for definition in library.definitions:
        shape = definition.shape
        found.extend([(shape.kinds[place], definition.pattern[place]) for place in shape.plain])
        found.extend([("type", item) for item in definition.own_items()])
        for handed in definition.handed:
            rows = [*list(zip(handed.shape.plain_kinds, handed.plain)), *[("type", item) for item in handed.stack]]
            found.extend([row for row in rows if is_closed(row[1])])
    for meeting in meetings(library):
        for handed in meeting.definition.handed:
            found.extend(meeting.handed_on(handed))
    return [row for row in found if row[0] in ("type", "types")]


def find_looks(library):
    """The looks of a library by their texts: terms with variables that have no names."""
    found = {}
    for kind, term in look_rows(library):
        parts = [piece for piece in pieces((term,)) if head_of(piece) in ("type", "var")]
        if kind == "types":
            parts.extend([("list", term[1][k:], term[2]) for k in range(len(term[1]) + 1)])
        for part in parts:
            look = blank(part)
            found[write_term(look)] = look
    return found


def find_measure(library):
    """The bound and the step of a library."""
    greatest, step = 0, 1
    for definition in library.definitions:
        seen = [definition.pattern[place] for place in definition.shape.seen]
        for handed in definition.handed:
            seen.extend([term for term in handed.plain if head_of(term) == "int"])
        for term in seen:
            if head_of(term) == "int":
                greatest = max(greatest, term)
            elif head_of(term) == "form":
                greatest = max(greatest, term[3])
                step = lcm(step, term[1])
    return greatest + 1, step


class Eyes:
    """The looks of a library with their indices, its bound and its step; all sights are reckoned here.

    Within, `by_name` has for each type name the tuples of an index and the indices of the args' looks, and
    `longer` the tuples (index, index of the first item's look, index of the look of the list behind it).
    """

    def __init__(self, looks, measure):
        self.bound, self.step = measure
        self.texts = sorted(looks)
        self.looks = [looks[text] for text in self.texts]
        index = {text: k for k, text in enumerate(self.texts)}
        self.anything = [index["?"]] if "?" in index else []
        self.any_list = [index["(..?)"]] if "(..?)" in index else []
        self.no_items = [index["()"]] if "()" in index else []
        self.by_name = {}
        self.longer = []
        self.longest = 0
        for k, look in enumerate(self.looks):
            head = head_of(look)
            if head == "type":
                row = (k, [index[write_term(arg)] for arg in look[2]])
                self.by_name.setdefault(look[1], []).append(row)
            elif head == "list" and look[1]:
                behind = ("list", look[1][1:], look[2])
                self.longer.append((k, index[write_term(look[1][0])], index[write_term(behind)]))
                self.longest = max(self.longest, len(look[1]))

    def type_sight(self, name, args):
        """The sight of a type, by those of its args."""
        found = list(self.anything)
        for k, looks in self.by_name.get(name, []):
            if len(looks) == len(args) and all([look in arg for look, arg in zip(looks, args)]):
                found.append(k)
        return tuple(sorted(found))

    def empty_sight(self):
        """The sight of the list without items."""
        return tuple(sorted([*self.any_list, *self.no_items]))

    def longer_sight(self, item, behind):
        """The sight of a list, by those of its first item and of the list behind it."""
        found = list(self.any_list)
        found.extend([k for k, first, rest in self.longer if first in item and rest in behind])
        return tuple(sorted(found))

    def number_sight(self, number):
        """The sight of a number."""
        return ("small", number) if number < self.bound else ("far", number % self.step)

    def number_of(self, sight):
        """The least number with a sight."""
        head, number = sight
        return number if head == "small" else self.bound + (number - self.bound) % self.step

    def sight_of(self, kind, term, binding):
        """The sight of a term, by those of its variables."""
        if kind == "type":
            return self.sight_of_type(term, binding)
        if kind == "types":
            sight = self.empty_sight() if term[2] is None else binding[term[2]]
            for item in term[1][::-1]:
                sight = self.longer_sight(self.sight_of_type(item, binding), sight)
            return sight
        if head_of(term) == "int":
            return self.number_sight(term)
        # A number stands for all that have its sight: what is added and multiplied takes them to one sight.
        return self.number_sight(term[1] * self.number_of(binding[term[2]]) + term[3])

    def sight_of_type(self, term, binding):
        """The sight of a type, by those of its variables."""
        # The sights of args wait in `done` until the type around them is due.
        todo, done = [(term, False)], []
        while todo:
            part, ready = todo.pop()
            if part[0] == "var":
                done.append(binding[part[1]])
            elif part[2] and not ready:
                todo.append((part, True))
                todo.extend([(arg, False) for arg in part[2][::-1]])
            else:
                first = len(done) - len(part[2])
                args = tuple(done[first:])
                del done[first:]
                done.append(self.type_sight(part[1], args))
        return done[0]


def eyes_of(library):
    """The eyes of a library."""
    if "eyes" not in library.kept:
        library.kept["eyes"] = Eyes(find_looks(library), find_measure(library))
    return library.kept["eyes"]
