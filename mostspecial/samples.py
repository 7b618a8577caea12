"""What all terms of a sight have in common, and closed terms of each sight."""

from mostspecial.eyes import eyes_of
from mostspecial.matches import bare, put_in
from mostspecial.meets import meet_all
from mostspecial.splits import strange_name
from mostspecial.terms import head_of, is_closed, pieces, variables


class Fresh:
    """Type names that are not used, another one on each call."""

    def __init__(self, used):
        self.used = {name: True for name in used}
        self.last = 0

    def term(self):
        """A type with another such name."""
        while True:
            name = strange_name(self.last)
            self.last += 1
            if name not in self.used:
                return ("type", name, ())


def count_names(terms):
    """How many type names stand in terms."""
    return sum(1 for piece in pieces(terms) if head_of(piece) == "type")


def spread(look, used):
    """A look with another variable at each place at which one stands; `used` has those of other places."""
    head = head_of(look)
    if head == "var":
        used.append(f"t{len(used)}")
        return ("var", used[-1])
    if head == "type":
        return ("type", look[1], tuple([spread(arg, used) for arg in look[2]]))
    items = tuple([spread(item, used) for item in look[1]])
    return ("list", items, None if look[2] is None else "rest")


class Samples:
    """The terms of each sight, by the eyes of a library.

    A type, and a list that is long enough, has a sight exactly if it is what all looks of this sight have in
    common, with strange names in place of the variables, or something more special that no other look takes.
    """

    def __init__(self, eyes):
        self.eyes = eyes
        self.strange = eyes.type_sight("", ())
        self.shared = {}
        self.added = {}

    def common(self, kind, sight):
        """The term that all looks of a sight have in common; for a number the form of its sight."""
        if kind == "num":
            least = self.eyes.number_of(sight)
            return least if sight[0] == "small" else ("form", self.eyes.step, "n", least)
        key = (kind, sight)
        if key not in self.shared:
            looks = [(spread(self.eyes.looks[k], []),) for k in sight]
            anything = bare("v", kind)
            self.shared[key] = meet_all([(anything,), *looks])[0]
        return self.shared[key]

    def fits(self, terms, kind, sight):
        """Whether a term has a sight if strange names stand in place of its variables."""
        binding = {variable: self.strange for variable, _ in variables((terms,))}
        return self.eyes.sight_of(kind, terms, binding) == sight

    def more_items(self, sight):
        """How many items lists of a sight may have beyond those that its looks have in common, ascending."""
        if sight not in self.added:
            _, items, rest = self.common("types", sight)
            most = 0 if rest is None else self.eyes.longest + 1
            lists = [("list", (*items, *[("var", "x")] * many), None) for many in range(most + 1)]
            self.added[sight] = [many for many, term in enumerate(lists) if self.fits(term, "types", sight)]
        return self.added[sight]

    def closed(self, kind, sight, fresh):
        """A closed term of a sight with as few names as any, strange ones wherever it may be."""
        if kind == "num":
            return self.eyes.number_of(sight)
        term = self.common(kind, sight)
        if kind == "types":
            many = self.more_items(sight)[0]
            term = ("list", (*term[1], *[("var", f"x{k}") for k in range(many)]), None)
        return put_in(term, {variable: fresh.term() for variable, _ in variables((term,))})

    def cost(self, kind, sight):
        """The least number of type names in a term of a sight."""
        if kind == "num":
            return 0
        term = self.common(kind, sight)
        many = len(variables((term,)))
        if kind == "types":
            many = self.more_items(sight)[0] + len([row for row in variables((term,)) if row[1] == "type"])
        return many + count_names((term,))

    def is_single(self, kind, sight):
        """Whether just one closed term has a sight."""
        if kind == "num":
            return sight[0] == "small"
        term = self.common(kind, sight)
        if kind == "type":
            return is_closed(term)
        return self.more_items(sight) == [0] and is_closed(("list", term[1], None))


def samples_of(library):
    """The samples of a library."""
    if "samples" not in library.kept:
        library.kept["samples"] = Samples(eyes_of(library))
    return library.kept["samples"]
