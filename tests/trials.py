"""Libraries by a source of chance, and their uses read one by one: what the tables of a library must agree with."""

import itertools

from mostspecial.apart import apart
from mostspecial.library import Library
from mostspecial.errors import InvalidLibrary
from mostspecial.matches import matching, more_special, put_in_all
from mostspecial.programs import Program, view
from mostspecial.sources import expression_of
from mostspecial.expressions import all_in
from mostspecial.termtexts import write_terms
from tests.tools import type_of

TYPE_PATTERNS = ["?", "?", "?", "A", "B<?>", "B<?>", "B<B<?>>", "P<?,?>", "P<A,?>", "P<?,A>", "B<A>", "P<B<?>,?>", "P<?,B<?>>", "C"]
NUM_PATTERNS = ["#", "#", "0", "1", "#+1", "#+1", "2*#", "2*#+1", "#+2", "3*#+1", "2"]
LIST_PATTERNS = ["(..)", "()", "(?,..)", "(?,..)", "(A,..)", "(?,?,..)", "(B<?>,..)", "(?)", "(A,B<?>,..)", "(?,A)"]
PILE_PATTERNS = ["(..)", "()", "(?,..)", "(A,..)", "(B<?>,..)", "(?,..)"]
CLOSED = {"type": ["A", "B<A>", "P<A,A>", "B<B<A>>"], "num": ["0", "1", "2", "3"], "types": ["()", "(A)", "(B<A>,A)"]}


class Maker:
    """What makes one library."""

    def __init__(self, chance, often=0.15, inner=0.5, kinds=("type", "type", "num", "types", "pile", "type")):
        self.chance = chance
        self.place_kinds = kinds
        self.often = often
        self.inner = inner
        self.many = 0

    def pick(self, rows):
        return self.chance.choice(rows)

    def variable(self, kind, own):
        if kind == "type" and own["type"] and self.chance.random() < self.often:
            return self.pick(own["type"])
        self.many += 1
        name = {"type": "t", "num": "n", "types": "r"}[kind] + str(self.many)
        own[kind].append(name)
        return name

    def term(self, kind, own):
        rows = {"type": TYPE_PATTERNS, "num": NUM_PATTERNS, "types": LIST_PATTERNS, "pile": PILE_PATTERNS}[kind]
        text = self.pick(rows) if self.chance.random() < 0.75 else rows[0]
        found = ""
        for k, sign in enumerate(text):
            found += sign
            if sign == "?":
                found += self.variable("type", own)
            elif sign == "#":
                found += self.variable("num", own)
            elif text[k - 1:k + 1] == "..":
                found += "?" + self.variable("types", own)
        return found

    def generic(self, word):
        kinds = [self.pick(self.place_kinds) for _ in range(self.pick([0, 1, 1, 2, 2, 2, 3]))]
        while kinds.count("pile") > 1:
            kinds.remove("pile")
        return word, kinds, self.chance.random() < self.inner

    def parts(self, pattern, kinds):
        """Texts that may be handed on, by their kinds, and rests of piles and of lists."""
        from mostspecial.termtexts import read_terms, write_term
        from mostspecial.terms import Names, head_of, pieces
        names = Names([("A", 0), ("B", 1), ("P", 2), ("C", 0)])
        found = {"type": [], "num": [], "types": [], "rests": [], "own": []}
        for term, kind in zip(read_terms(",".join(pattern), tuple(kinds), names), kinds):
            found["type"].extend(write_term(piece) for piece in pieces((term,)) if head_of(piece) in ("type", "var"))
            if kind == "types":
                found["types"].extend(write_term(("list", term[1][k:], term[2])) for k in range(len(term[1]) + 1))
                found["rests"].extend([term[2]] if term[2] else [])
            elif kind == "pile":
                found["own"].extend([term[2]] if term[2] else [])
            elif head_of(term) == "form":
                rows = [("form", 1, term[2], j) for j in range(term[3] + 1)] if term[1] == 1 else [term, ("form", 1, term[2], 0)]
                found["num"].extend(map(write_term, rows))
        return found

    def inner_use(self, generics, parts):
        word, kinds, _ = self.pick(generics)
        terms = []
        left = {kind: list(dict.fromkeys(parts[kind])) for kind in parts}

        def take(kind):
            rows = left[kind]
            if not rows or self.chance.random() < 0.2:
                return self.pick(CLOSED[kind])
            found = self.pick(rows)
            used = [name for name in set("".join(sign if sign.isalnum() else " " for sign in found).split()) if name[0].islower()]
            for other in left:
                left[other] = [row for row in left[other] if not any(name in row for name in used)]
            return found
        for kind in kinds:
            if kind != "pile":
                terms.append(take(kind))
                continue
            items = [take("type") for _ in range(self.pick([0, 0, 0, 1, 1, 2, 3]))]
            rests = [*left["own"], *left["own"], *left["rests"]]
            if rests and self.chance.random() < 0.8:
                items.append("..?" + self.pick(rests))
            terms.append("(" + ",".join(items) + ")")
        return f"{word}<{','.join(terms)}>"

    def definition(self, generic, generics):
        own = {"type": [], "num": [], "types": []}
        word, kinds, _ = generic
        pattern = [self.term(kind, own) for kind in kinds]
        lines = [f"for {word}<{','.join(pattern)}>"]
        parts = self.parts(pattern, kinds)
        for member in ["  const v = ", "  fun go(x) = ", "  const w = "]:
            if self.chance.random() < 0.7:
                uses = [self.inner_use(generics, parts) for _ in range(self.pick([0, 1, 1, 1, 2]))]
                asks = [use + self.pick([".v", ".v", ".w"] if "const" in member else [".v", ".go(x)", ".go(1)", ".w"]) for use in uses]
                lines.append(member + "+".join(["1", *asks]))
        return lines

    def library(self):
        generics = [self.generic(word) for word in ["f", "g", "h", "e"][:self.pick([1, 2, 3, 3, 4])]]
        base = ["name A 0", "name B 1", "name P 2"]
        base += [f"{'inner ' if inner else ''}gen {word}<{','.join(kinds)}>" for word, kinds, inner in generics]
        more = ["see base", "name C 0"]
        for generic in generics:
            for _ in range(self.pick([1, 2, 2, 3, 4])):
                lines = self.definition(generic, generics)
                if "C" in lines[0] or self.chance.random() < 0.15:
                    more += lines
                else:
                    base += lines
        headers = {"base": "\n".join(base), "more": "\n".join(more)}
        return headers, [("base",), ("more",)]


def random_library(chance, tries=400, maker=None, **more):
    """A library that takes apart."""
    for _ in range(tries):
        headers, views = (maker or Maker)(chance, **more).library()
        try:
            library = Library(headers, views)
        except ValueError:
            continue
        if apart(library) is None:
            return library
    return None


class MachineMaker(Maker):
    """What makes libraries with one pile that is worked off, so that uses go badly behind more asks."""

    STARTS = {"type": ["?", "?", "B<?>", "A"], "types": ["(..)", "(?,..)", "(A,..)"], "num": ["#", "#+1"], "pile": ["(..)", "(?,..)", "()"]}
    STATES = {"num": ["0", "1", "2", "#", "#+1", "2*#", "2*#+1"], "type": ["A", "B<?>", "B<A>", "?", "P<?,?>", "B<B<?>>"]}
    PILES = ["(A,..)", "(B<?>,..)", "(?,..)", "()", "(P<?,?>,..)"]

    def filled(self, text, own):
        """A text of a pattern with variables at their places."""
        found = ""
        for k, sign in enumerate(text):
            found += sign
            if sign == "?":
                found += self.variable("type", own)
            elif sign == "#":
                found += self.variable("num", own)
            elif text[k - 1:k + 1] == "..":
                found += "?" + self.variable("types", own)
        return found

    def asking(self, generic, texts, targets):
        """The lines of a definition that asks one or two uses for v, and has mostly v itself."""
        word, kinds, _ = generic
        own = {"type": [], "num": [], "types": []}
        pattern = [self.filled(text, own) for text in texts]
        parts = self.parts(pattern, kinds)
        uses = [self.inner_use(targets, parts) for _ in range(self.pick([1, 1, 1, 2]))]
        member = "w" if self.chance.random() < 0.06 else "v"
        return [f"for {word}<{','.join(pattern)}>", f"  const {member} = 1" + "".join(f"+{use}.v" for use in uses)]

    def library(self):
        start = ("start", self.pick([["type"], ["types"], ["type", "type"], ["pile", "type"], ["types", "num"], []]), False)
        run = ("run", [self.pick(["num", "type"]), "pile"], True)
        end = ("end", [self.pick(["num", "type"])], True)
        bare = {"num": "#n", "type": "?t"}
        base = ["name A 0", "name B 1", "name P 2"]
        base += [f"{'inner ' if inner else ''}gen {word}<{','.join(kinds)}>" for word, kinds, inner in (start, run, end)]
        base += [f"for run<{bare[run[1][0]]},(..?r)>", "  const v = 1", f"for end<{bare[end[1][0]]}>", "  const v = 1"]
        base += self.asking(start, [self.STARTS[kind][0] for kind in start[1]], [run])
        for _ in range(self.pick([0, 1, 2])):
            base += self.asking(start, [self.pick(self.STARTS[kind]) for kind in start[1]], [run])
        for _ in range(self.pick([3, 4, 5, 6])):
            base += self.asking(run, [self.pick(self.STATES[run[1][0]]), self.pick(self.PILES)], [run, run, run, end])
        for _ in range(self.pick([0, 1, 2])):
            base += self.asking(end, [self.pick(self.STATES[end[1][0]])], [run, end])
        return {"base": "\n".join(base), "more": "see base\nname C 0"}, [("base",), ("more",)]


class World:
    """The uses of a view, read one by one."""

    def __init__(self, library, k):
        self.library = library
        self.k = k
        self.program = Program(dict(library.headers, **{}), {"main": "\n".join("see " + word for word in library.views[k])})
        names, generics, self.definitions = view(self.program, "main")
        self.names = dict(names)
        self.kinds = {word: kinds for word, kinds, inner in generics}
        self.openly = [word for word, kinds, inner in generics if not inner]
        self.cache = {}

    def types(self, depth, many=40):
        found = [type_of(name) for name in self.names if self.names[name] == 0] + [type_of("Zed"), type_of("Zod")]
        for _ in range(depth - 1):
            more = [type_of(name, *args) for name in self.names if self.names[name]
                    for args in itertools.product(found[:12], repeat=self.names[name])]
            found = list(dict.fromkeys(found + more))[:many]
        return found

    def choice(self, generic, terms):
        """The definition that is the choice of a use, or "none" or "two"."""
        takers = [row for row in self.definitions if row[1] == generic and matching(row[2], terms) is not None]
        if not takers:
            return "none"
        for row in takers:
            if all(more_special(row[2], other[2]) for other in takers):
                return row
        return "two"

    def asked(self, generic, terms):
        """What a use comes to: its choice, and the list of (generic, terms, word, many, rest's variable) that it asks."""
        key = (generic, write_terms(terms))
        if key not in self.cache:
            row = self.choice(generic, terms)
            found = []
            if not isinstance(row, str):
                binding = matching(row[2], terms)
                for member in row[3]:
                    for part in all_in(expression_of(member)):
                        if part[0] in ("const", "call"):
                            many = len(part[4]) if part[0] == "call" else -1
                            found.append((part[1], put_in_all(part[2], binding), part[3], many, part[2]))
            self.cache[key] = (row, found)
        return self.cache[key]

    def lacks(self, row, word, many):
        if many == -1:
            return not any(member[:2] == ("const", word) for member in row[3])
        return not any(member[:2] == ("fun", word) and len(member[2]) == many for member in row[3])

    def wrong(self, row):
        """What is wrong with a use that lies behind an open use, told as `behind` does, or None."""
        _, generic, terms, word, many = row
        choice = self.choice(generic, terms)
        if isinstance(choice, str):
            return choice
        return "lacks" if word is not None and self.lacks(choice, word, many) else None

    def behind(self, generic, terms, most, width=400):
        """The tuples (asks, generic, terms, word, many) of what lies behind an open use, up to so many asks."""
        level = {(generic, write_terms(terms), None, None): (generic, terms, None, None)}
        seen, found = {}, []
        for asks in range(most + 1):
            following = {}
            for key, (word, use, member, many) in level.items():
                if key in seen:
                    continue
                seen[key] = True
                found.append((asks, word, use, member, many))
                for other, new, asked, args, _ in self.asked(word, use)[1]:
                    following[(other, write_terms(new), asked, args)] = (other, new, asked, args)
            level = dict(list(following.items())[:width])
        return found


def random_terms(world, generic, chance, depth=3):
    """The terms of a use of a view by a source of chance."""
    types = world.types(depth)
    found = []
    for kind in world.kinds[generic]:
        if kind == "type":
            found.append(chance.choice(types))
        elif kind == "num":
            found.append(chance.randrange(14))
        else:
            found.append(("list", tuple(chance.choice(types[:14]) for _ in range(chance.randrange(4))), None))
    return tuple(found)


def count_of(library, generic, terms):
    """What counts of a use."""
    shape = library.shapes[generic]
    pile = shape.pile_of(terms)
    return generic, tuple(terms[place] for place in shape.plain), None if pile is None else pile[1][:1]


def names_of(library, generic, terms):
    """How many type names stand where a use is looked at."""
    text = repr([terms[place] for place in library.shapes[generic].seen])
    return text.count("'type'")


def types_with_names(world, most):
    """The types of a view, with two strange names, by the number of names that stand in them."""
    found = {}
    for many in range(1, most + 1):
        found[many] = []
        for name, count in [*world.names.items(), ("Zed", 0), ("Zod", 0)]:
            if count == 0 and many == 1:
                found[many].append(type_of(name))
            elif count == 1 and many > 1:
                found[many].extend(type_of(name, one) for one in found[many - 1])
            elif count == 2:
                found[many].extend(type_of(name, one, other) for k in range(1, many - 1) for one in found[k] for other in found[many - 1 - k])
    return found


def lists_with_names(types, many):
    """The tuples of types in which as many names stand."""
    if many == 0:
        return [()]
    return [(one, *behind) for k in range(1, many + 1) for one in types[k] for behind in lists_with_names(types, many - k)]


def uses_with_names(world, library, generic, many):
    """The uses of a generic with as many type names where it is looked at, with small numbers."""
    types = types_with_names(world, many)
    rows = [((), many)]
    for place, kind in enumerate(world.kinds[generic]):
        more = []
        for terms, left in rows:
            if place not in library.shapes[generic].seen:
                more.append(((*terms, {"type": type_of("Zid"), "num": 0, "types": ("list", (), None)}[kind]), left))
            elif kind == "num":
                more.extend(((*terms, number), left) for number in range(14))
            elif kind == "type":
                more.extend(((*terms, one), left - k) for k in range(1, left + 1) for one in types[k])
            else:
                more.extend(((*terms, ("list", items, None)), left - k) for k in range(left + 1) for items in lists_with_names(types, k))
        rows = more
    return [terms for terms, left in rows if left == 0]
