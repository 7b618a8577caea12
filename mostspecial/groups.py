"""Which definitions of a view take uses of a sort together, and what these ask."""

from mostspecial.cases import case_of
from mostspecial.matches import bare, matching, more_special, put_in_all
from mostspecial.meets import meet
from mostspecial.samples import Fresh, count_names
from mostspecial.scopes import header_names, scope_of
from mostspecial.terms import standing, variables

# A variable for the first item of a pile of which a pattern tells nothing; no pattern has one of this name.
ANY_ITEM = ("var", "first item")


class Group:
    """Uses of a sort that are taken by the same definitions: by the cases `taken_by`, and no others.

    `chosen` is the case of their choice, None if they have none. One of these uses with as few type names as
    any has `terms` at plain places and the items `stack` on its pile, and so many `names`.
    """

    def __init__(self, taken_by, chosen, terms, stack):
        self.taken_by = taken_by
        self.chosen = chosen
        self.terms = terms
        self.stack = stack
        self.names = count_names([*terms, *stack])


class Groups:
    """Some definitions, those of a view or of two together, and what they come to for each sort."""

    def __init__(self, scope, definitions):
        self.scope = scope
        self.cases = {word: [] for word in scope.shapes}
        for definition in definitions:
            self.cases[definition.generic].append(case_of(definition, scope))
        self.used_names = [name for name, count in header_names(scope.library)]
        self.found = {}
        self.askings = {}
        self.by_uses = {}
        self.above = {}

    def new_names(self):
        """What makes strange types."""
        return Fresh(self.used_names)

    def is_above(self, case, other):
        """Whether a case is more special than another one of its generic."""
        key = (case.mark, other.mark)
        if key not in self.above:
            self.above[key] = more_special(case.definition.pattern, other.definition.pattern)
        return self.above[key]

    def least(self, takers):
        """The case among some that is more special than all of them, or None."""
        for case in takers:
            if all([self.is_above(case, other) for other in takers]):
                return case
        return None

    def candidates(self, sort):
        """The cases that take some uses of a sort: those that take all, and those that do not."""
        found = [case for case in self.cases[sort[0]] if case.rows(sort, {})]
        return [case for case in found if not case.often], [case for case in found if case.often]

    def groups_for(self, sort):
        """The groups of the uses of a sort."""
        if sort not in self.found:
            self.found[sort] = self.find_groups(sort)
        return self.found[sort]

    def find_groups(self, sort):
        """The groups of the uses of a sort, reckoned anew."""
        sure, others = self.candidates(sort)
        shared = [([], self.common(sort))]
        for case in others:
            more = [([*chosen, case], meet(both, self.reduced(case, sort))) for chosen, both in shared]
            shared.extend([row for row in more if row[1] is not None])
        found = []
        for chosen, both in shared:
            closed = self.closed(both, sort)
            # Strange names are as unlike as any terms: what takes this use takes all that the others do.
            if closed is not None and self.those_taking(others, closed, sort) == chosen:
                takers = [*sure, *chosen]
                terms, items = self.in_places(closed, sort)
                found.append(Group(takers, self.least(takers), terms, items))
        return found

    def seen_kinds(self, sort):
        """The tuples (kind, sight) of what is looked at in uses of a sort, but numbers."""
        generic, plain, first = sort
        rows = list(zip(self.scope.shapes[generic].plain_kinds, plain))
        if first is not None and first != "()":
            rows.append(("type", first))
        return [row for row in rows if row[0] != "num"]

    def common(self, sort):
        """What the terms of all uses of a sort have in common, without numbers."""
        found = []
        for k, (kind, sight) in enumerate(self.seen_kinds(sort)):
            term = self.scope.samples.common(kind, sight)
            binding = {variable: bare(f"{k} {variable}", own) for variable, own in variables((term,))}
            found.extend(put_in_all((term,), binding))
        return tuple(found)

    def reduced(self, case, sort):
        """The terms of a case's pattern where uses of a sort are looked at, without numbers."""
        found = [term for kind, term in case.parts if kind != "num"]
        if len(found) < len(self.seen_kinds(sort)):
            found.append(ANY_ITEM)
        return tuple(found)

    def those_taking(self, cases, closed, sort):
        """Those of some cases that take a use with closed terms where it is looked at, if its numbers fit."""
        return [case for case in cases if matching(self.reduced(case, sort), closed) is not None]

    def closed(self, terms, sort):
        """Terms with strange types for all variables, and lists as short as may be, of a sort, or None."""
        fresh = self.new_names()
        binding = {variable: fresh.term() for variable, kind in variables(terms) if kind == "type"}
        found = []
        for term, (kind, sight) in zip(terms, self.seen_kinds(sort)):
            rests = [()]
            if kind == "types" and term[2] is not None:
                strange = [fresh.term() for _ in range(self.scope.eyes.longest + 1)]
                rests = [tuple(strange[:many]) for many in range(len(strange) + 1)]
            closed = self.first_fitting(term, kind, sight, [{**binding, **rest_binding(term, rest)} for rest in rests])
            if closed is None:
                return None
            found.append(closed)
        return tuple(found)

    def first_fitting(self, term, kind, sight, bindings):
        """A term with the first binding by which it has a sight, or None."""
        for binding in bindings:
            closed = put_in_all((term,), binding)[0]
            if self.scope.eyes.sight_of(kind, closed, {}) == sight:
                return closed
        return None

    def in_places(self, closed, sort):
        """The terms at plain places, with the least numbers of their sights, and the items of the pile."""
        generic, plain, _ = sort
        left = list(closed)[::-1]
        terms = []
        for kind, sight in zip(self.scope.shapes[generic].plain_kinds, plain):
            terms.append(self.scope.eyes.number_of(sight) if kind == "num" else left.pop())
        return tuple(terms), tuple(left)

    def asks_for(self, sort):
        """What uses of a sort ask: from the tuples of `asks` to their weights.

        The weight of an ask is the least number of type names by which uses of the sort have more than any of
        it needs if what they ask has no more than any of its own sort needs.
        """
        if sort not in self.askings:
            self.askings[sort], self.by_uses[sort] = {}, {}
            sure, others = self.candidates(sort)
            for case in [*sure, *others]:
                self.add_asks(case, sort, sure, others)
        return self.askings[sort]

    def inner_uses(self, sort, ask):
        """A definition that is the choice of uses of a sort, and those of what it hands on by which they ask."""
        self.asks_for(sort)
        definition = self.case_with(sort[0], ask[0]).definition
        return definition, [definition.handed[at] for at in self.by_uses[sort][ask]]

    def case_with(self, generic, mark):
        """The case with a mark."""
        return [case for case in self.cases[generic] if case.mark == mark][0]

    def add_asks(self, case, sort, sure, others):
        """Add what those uses of a sort ask of which a case is the choice."""
        found, by_uses = self.askings[sort], self.by_uses[sort]
        if not all([self.is_above(case, other) for other in sure]):
            return
        rivals = [other for other in others if not self.is_above(case, other)]
        rows = None
        if rivals:
            rows = [row for row in case.rows(sort, case.kinds) if not self.always_taken(case, sort, row[0], rivals)]
        for at, handed in enumerate(case.definition.handed):
            kept = {variable: True for variable, _ in standing(handed.all_seen())}
            left = case.rows(sort, kept) if rows is None else case.project(rows, kept)
            for binding, cost in left:
                ask = self.ask_of(case, sort, handed, binding)
                by_uses.setdefault(ask, {})[at] = True
                weight = cost + self.weight(case, sort, handed, ask)
                if ask not in found or weight < found[ask]:
                    found[ask] = weight

    def always_taken(self, case, sort, binding, rivals):
        """Whether a rival takes each use that a case takes with some sights of its variables."""
        fresh = self.new_names()
        closed = {}
        for variable, sight in binding.items():
            closed[variable] = self.scope.samples.closed(case.kinds[variable], sight, fresh)
        closed[ANY_ITEM[1]] = self.scope.samples.closed("type", sort[2], fresh) if sort[2] not in (None, "()") else None
        use = put_in_all(self.reduced(case, sort), closed)
        return bool(self.those_taking(rivals, use, sort))

    def ask_of(self, case, sort, handed, binding):
        """The tuple of what an inner use comes to, by the sights of the variables that it hands on."""
        eyes = self.scope.eyes
        plain = [eyes.sight_of(kind, term, binding) for kind, term in zip(handed.shape.plain_kinds, handed.plain)]
        items = tuple([eyes.sight_of("type", item, binding) for item in handed.stack])
        pile = None if handed.how is None else (handed.how, items)
        if handed.how == "laid" and not case.definition.own_items() and sort[2] != "()":
            pile = ("laid", (*items, sort[2]))
        if handed.how == "beside":
            pile = ("beside", items, binding[handed.rest])
        return case.mark, handed.generic, tuple(plain), pile, handed.word, handed.many

    def weight(self, case, sort, handed, ask):
        """The weight of an ask, but for the variables that are not handed on."""
        generic, plain, first = sort
        own = [] if first is None or first == "()" else [first]
        pile = ask[3]
        found = case.names - self.scope.cost(generic, plain, own)
        found += self.scope.cost(handed.generic, ask[2], [] if pile is None else pile[1])
        found -= count_names([*handed.plain, *handed.stack])
        if handed.how == "beside":
            found += self.scope.samples.cost("types", pile[2])
        if own and not case.definition.own_items() and handed.how != "laid":
            # An item of which the pattern tells nothing is needed, though it is not handed on.
            found += self.scope.samples.cost("type", first)
        return found


def rest_binding(term, items):
    """A binding of the rest of a list, if it has one, to some items."""
    return {term[2]: ("list", items, None)} if term[0] == "list" and term[2] is not None else {}


def groups_of(library, k):
    """The groups of a view."""
    key = ("groups", k)
    if key not in library.kept:
        library.kept[key] = Groups(scope_of(library, k), library.definitions_of(k))
    return library.kept[key]
