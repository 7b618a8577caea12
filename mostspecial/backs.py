"""Open uses behind which a given use lies, made step by step from this one back."""

from mostspecial.matches import fitted, matching, put_in_all
from mostspecial.samples import Fresh, count_names
from mostspecial.scopes import header_names
from mostspecial.terms import named_types


class Goal:
    """What a use must have: `terms` at plain places, and the items `stack` first on its pile.

    If it is `shut`, there are no more items on the pile than these.
    """

    def __init__(self, terms, items, shut):
        self.terms = tuple(terms)
        self.stack = tuple(items)
        self.shut = shut


class Backward:
    """The steps back from one use; types that it does not tell are strange ones of other names."""

    def __init__(self, groups, goal):
        self.grouping = groups
        self.scope = groups.scope
        told = [name for name, many in named_types([*goal.terms, *goal.stack])]
        self.fresh = Fresh([*[name for name, count in header_names(groups.scope.library)], *told])

    def go_back(self, steps, goal):
        """What the first one of some uses must have if the steps (sort, ask) lead from it to a goal."""
        for sort, ask in steps[::-1]:
            goal = self.step_back(sort, ask, goal)
        return goal

    def step_back(self, sort, ask, goal):
        """What a use of a sort must have that asks for a goal, with as few type names as any."""
        mark, generic, _, _, word, many = ask
        case = self.grouping.case_with(sort[0], mark)
        rows = []
        for handed in case.definition.handed:
            if (handed.generic, handed.word, handed.many) == (generic, word, many):
                rows.append(self.asking(case, handed, sort, ask, goal))
        found = [row for row in rows if row is not None]
        if not found:
            raise RuntimeError("each step that leads somewhere can be gone back")
        names = [count_names([*row.terms, *row.stack]) for row in found]
        return found[names.index(min(names))]

    def asking(self, case, handed, sort, ask, goal):
        """What a use of a sort must have whose choice asks for a goal by an inner use, or None."""
        pile = ask[3]
        if handed.how != (None if pile is None else pile[0]):
            return None
        many = min(len(handed.stack), len(goal.stack))
        if goal.shut and len(goal.stack) < len(handed.stack):
            return None
        fixed = fitted((*handed.plain, *handed.stack[:many]), (*goal.terms, *goal.stack[:many]))
        if fixed is None:
            return None
        below = Goal((), goal.stack[many:], goal.shut) if many == len(handed.stack) else Goal((), (), False)
        if handed.how == "begun" and below.stack:
            return None
        if handed.how == "beside":
            rest = self.list_of(pile[2], below)
            if rest is None:
                return None
            fixed[handed.rest] = rest
        laid = below if handed.how == "laid" else Goal((), (), False)
        return self.with_terms(case, handed, (sort, ask), fixed, laid)

    def list_of(self, sight, below):
        """A list of a sight that begins with the items of a goal, and has no more if it is shut, or None."""
        eyes, samples = self.scope.eyes, self.scope.samples
        behinds = [eyes.empty_sight()] if below.shut else self.scope.sights["types"]
        rows = []
        for behind in behinds:
            if eyes.sight_of("types", ("list", below.stack, "rest"), {"rest": behind}) == sight:
                rows.append((samples.cost("types", behind), behind))
        if not rows:
            return None
        rest = () if below.shut else samples.closed("types", min(rows)[1], self.fresh)[1]
        return ("list", (*below.stack, *rest), None)

    def with_terms(self, case, handed, step, fixed, laid):
        """What a use must have to go a step by an inner use of a case, with some terms of its pattern's variables."""
        sort, ask = step
        sights = {}
        for variable, term in fixed.items():
            sights[variable] = self.scope.eyes.sight_of(case.kinds[variable], term, {})
        for binding, _ in case.rows_with(sort, sights):
            # The steps before this one have been found for just this ask, not for any one that leads to the goal.
            if self.grouping.ask_of(case, sort, handed, binding) != ask:
                continue
            terms = dict(fixed)
            for variable, sight in binding.items():
                if variable not in fixed:
                    terms[variable] = self.scope.samples.closed(case.kinds[variable], sight, self.fresh)
            found = self.on_pile(case, sort, terms, laid)
            if found is not None and self.fits(case, sort, found):
                return found
        return None

    def on_pile(self, case, sort, terms, laid):
        """What a use must have by some terms of a pattern's variables, and by what lies below its items."""
        parts = put_in_all([term for kind, term in case.parts], terms)
        many = len(case.definition.shape.plain)
        items = (*parts[many:], *laid.stack)
        shut = laid.shut
        if sort[2] is None or sort[2] == "()":
            return None if items else Goal(parts[:many], (), True)
        if not items and shut:
            return None
        if not items:
            items = (self.scope.samples.closed("type", sort[2], self.fresh),)
        return Goal(parts[:many], items, shut)

    def fits(self, case, sort, goal):
        """Whether a use that has just what a goal tells is of a sort, and has a case as its choice."""
        use = self.use_of(sort[0], goal)
        if self.scope.sort_of(sort[0], use) != sort:
            return False
        cases = self.grouping.cases[sort[0]]
        takers = [other for other in cases if matching(other.definition.pattern, use) is not None]
        least = self.grouping.least(takers)
        return least is not None and least.mark == case.mark

    def use_of(self, generic, goal):
        """The terms of a use that has what a goal tells, and no more on its pile."""
        shape = self.scope.shapes[generic]
        plain, found = list(goal.terms)[::-1], []
        for place, kind in enumerate(shape.kinds):
            if place in shape.plain:
                found.append(plain.pop())
            elif place == shape.pile:
                found.append(("list", goal.stack, None))
            else:
                found.append(self.any_term(kind))
        return tuple(found)

    def any_term(self, kind):
        """A small closed term of a kind."""
        if kind == "type":
            return self.fresh.term()
        return 0 if kind == "num" else ("list", (), None)


def goal_of(scope, generic, terms):
    """The goal that counts as much as a use."""
    shape = scope.shapes[generic]
    pile = shape.pile_of(terms)
    items = () if pile is None else pile[1][:1]
    return Goal([terms[place] for place in shape.plain], items, not items)


def goal_of_sort(groups, sort):
    """The goal that a small use of a sort has."""
    generic, plain, first = sort
    samples, fresh = groups.scope.samples, groups.new_names()
    kinds = groups.scope.shapes[generic].plain_kinds
    terms = [samples.closed(kind, sight, fresh) for kind, sight in zip(kinds, plain)]
    items = [] if first is None or first == "()" else [samples.closed("type", first, fresh)]
    return Goal(terms, items, not items)


def open_use(groups, steps, sort, goal):
    """The tuple (generic, terms) of an open use from which some steps lead to a use of a sort that has a goal."""
    backward = Backward(groups, goal)
    first = steps[0][0] if steps else sort
    found = backward.go_back(steps, goal)
    return first[0], backward.use_of(first[0], found)
