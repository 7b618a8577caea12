"""Points [174] and [193] in the words of the document: edges, ends and threads, one path after another."""

from mostspecial.expressions import all_in
from mostspecial.groups import groups_of
from mostspecial.library import looked
from mostspecial.matches import matching, more_special
from mostspecial.places import bare_variable
from mostspecial.sights import sight, sights, single
from mostspecial.steps import asks, outcomes
from mostspecial.terms import standing


def asking_constants(definition, handed):
    """The constants of a definition that ask an inner use for a constant, at once or by name."""
    parts = {member[1]: all_in(member[2]) for member in definition.members if member[0] == "const"}

    def asks_it(word):
        for part in parts[word]:
            if part[0] == "const" and part[1:4] == (handed.generic, handed.terms, handed.word):
                return True
            if part[0] == "name" and asks_it(part[1]):
                return True
        return False
    return [word for word in parts if asks_it(word)]


class Naive:
    """The edges of a view by given ways out: a dict from sorts to dicts from ways to sets of threads."""

    def __init__(self, library, k, out):
        self.library, self.k, self.out = library, k, out
        self.kinds = {word: kinds for word, kinds, inner in library.generics_of(k)}
        self.marks = {row.mark: row for row in library.definitions_of(k)}

    def places(self, generic):
        seen, kinds = looked(self.library, generic), self.kinds[generic]
        plain = [place for place in seen if kinds[place] != "pile"]
        return plain, [place for place in range(len(kinds)) if place not in seen], [place for place in seen if kinds[place] == "pile"]

    def is_still(self, sort, definition, handed):
        generic, plain, first = sort
        wholes = [handed.terms[place] for place in self.places(handed.generic)[0]]
        wholes += [item for place in self.places(handed.generic)[2] for item in handed.terms[place][1]]
        for place, seen in zip(self.places(generic)[0], plain):
            if not single(self.library, self.kinds[generic][place], seen) and definition.pattern[place] not in wholes:
                return False
        if first in (None, "()") or single(self.library, "type", first):
            return True
        pile = definition.pattern[self.places(generic)[2][0]]
        return pile[1][0] in wholes if pile[1] else self.how(definition, handed) == "laid"

    def how(self, definition, handed):
        piles = self.places(handed.generic)[2]
        if not piles:
            return None
        rest = handed.terms[piles[0]][2]
        own = [definition.pattern[place][2] for place in self.places(definition.generic)[2]]
        return "begun" if rest is None else "laid" if [rest] == own else "beside"

    def threads(self, sort, definition, handed):
        if not self.is_still(sort, definition, handed):
            return frozenset()
        found = set()
        for a in self.places(definition.generic)[1]:
            variable = bare_variable(definition.pattern[a])
            for b in self.places(handed.generic)[1]:
                if variable in dict(standing((handed.terms[b],))):
                    found.add((a, b, bare_variable(handed.terms[b]) is None))
        if self.how(definition, handed) == "laid":
            found.add((self.places(definition.generic)[2][0], self.places(handed.generic)[2][0], False))
        if handed.many == -1:
            found |= {(word, handed.word, True) for word in asking_constants(definition, handed)}
        return frozenset(found)

    def all_asks(self, sort):
        """The tuples (ask, threads) of a sort, one for each inner use."""
        groups = groups_of(self.library, self.k)
        for ask in asks(self.library, self.k, sort):
            definition, rows = groups.inner_uses(sort, ask)
            for handed in rows:
                yield ask, self.threads(sort, definition, handed)

    def ways(self, sort):
        return self.out.get(sort, {}).items()

    def through(self, ends, item):
        """The ends behind ways out of the sorts that some ends have with a first item."""
        return {(control, asked, led(threads, more)) for (before, _, threads) in ends for (control, asked), more in self.ways((*before, item))}

    def follow(self, sort, ask, threads):
        """The edges (sort, asked, stay, threads) by an ask, and its ends (control, asked, threads)."""
        _, generic, plain, pile, word, many = ask
        ends, edges = {((generic, plain), (word, many), threads)}, set()
        if pile is None:
            return {((generic, plain, None), (word, many), 0, threads)}, set()
        for k, item in enumerate(pile[1], start=1):
            stay = len(pile[1]) - k if pile[0] == "laid" else 0
            edges |= {((*control, item), asked, stay, told) for control, asked, told in ends}
            ends = self.through(ends, item)
        if pile[0] == "begun" or pile[0] == "laid" and sort[2] == "()":
            edges |= {((*control, "()"), asked, 0, told) for control, asked, told in ends}
        if pile[0] == "beside":
            edges |= self.into_list(ends, pile[2])
        return edges, ends

    def into_list(self, ends, whole):
        edges, todo = set(), [(end, whole) for end in ends]
        seen = set(todo)
        while todo:
            (control, asked, threads), left = todo.pop()
            if left == sight(self.library, "types", ("list", (), None)):
                edges.add(((*control, "()"), asked, 0, threads))
            for item in sights(self.library, self.k, "type"):
                for behind in sights(self.library, self.k, "types"):
                    if groups_of(self.library, self.k).scope.eyes.longer_sight(item, behind) == left:
                        edges.add(((*control, item), asked, 0, threads))
                        more = {(end, behind) for end in self.through({(control, asked, threads)}, item)} - seen
                        seen |= more
                        todo.extend(more)
        return edges


def led(threads, more):
    return frozenset((a, c, x or y) for a, b, x in threads for other, c, y in more if b == other)


def has_all(library, k, sort, asked):
    """Whether each choice of a sort has a member."""
    word, many = asked
    definitions = {row.mark: row for row in library.definitions_of(k)}
    for mark in outcomes(library, k, sort)[0]:
        members = definitions[mark].members
        if many == -1 and ("const", word) not in [member[:2] for member in members]:
            return False
        if many >= 0 and ("fun", word, many) not in [(member[0], member[1], len(member[2])) for member in members]:
            return False
    return True


def is_good_part(library, k, part):
    """Whether a part that has the form of one is such as [193] tells, but for what other views choose."""
    numbers = {sort: dict(row) for sort, ways, row in part}
    out = {sort: {((way[0], way[1]), (way[2], way[3])): set(way[4]) for way in ways} for sort, ways, row in part}
    naive = Naive(library, k, out)
    scope = groups_of(library, k).scope
    needed = {(sort, None) for generic in scope.openly for sort in scope.sorts_of(generic)}
    todo = [way for sort in out if sort[0] in scope.openly for way in out[sort]]
    seen = set(todo)
    while todo:
        control, asked = todo.pop()
        for first in ["()", *sights(library, k, "type")]:
            needed.add(((*control, first), asked))
            more = set(out.get((*control, first), {})) - seen
            seen |= more
            todo.extend(more)
    if any(outcomes(library, k, sort)[1:] != (False, False) for sort in numbers):
        return False
    for sort in numbers:
        pile = naive.places(sort[0])[2]
        for ask, threads in naive.all_asks(sort):
            edges, ends = naive.follow(sort, ask, threads)
            if ask[3] is not None and ask[3][0] == "laid" and sort[2] != "()":
                if not all((control, asked) in out[sort] and told <= out[sort][(control, asked)] for control, asked, told in ends):
                    return False
            for target, asked, stay, told in edges:
                needed.add((target, asked))
                if target not in numbers or not has_all(library, k, target, asked):
                    return False
                for a, b, falls in told:
                    if numbers[sort][a] < numbers[target][b] + (falls or stay > 0 and [a] == pile):
                        return False
    return all(sort in numbers and (asked is None or has_all(library, k, sort, asked)) for sort, asked in needed)


def choices_agree(library, uses):
    """Whether no use of some (generic, terms) has unlike choices in two views of a library."""
    for generic, terms in uses:
        marks = set()
        for k in range(len(library.views)):
            takers = [row for row in library.definitions_of(k) if row.generic == generic and matching(row.pattern, terms) is not None]
            marks |= {row.mark for row in takers if all(more_special(row.pattern, other.pattern) for other in takers)}
        if len(marks) > 1:
            return False
    return True
