"""Definitions of a view: which uses of a sort their patterns take, by the sights of their variables."""

from mostspecial.places import often_in
from mostspecial.samples import count_names
from mostspecial.terms import standing, variables


class Case:
    """A definition in a view.

    `parts` has the tuples (kind, term) of its pattern at plain places, and then that of the item of its pile,
    if it has one there. For each part, `tables` has for each sight a list of rows: tuples of a dict, from the
    variables of the part to sights, and a cost. A row tells that the part has this sight if its variables have
    theirs; in the course of reckoning variables are left out of rows, and the cost is the least number of type
    names in terms of those that have been left out.
    """

    def __init__(self, definition, scope):
        self.definition = definition
        self.mark = definition.mark
        self.generic = definition.generic
        self.scope = scope
        shape = definition.shape
        self.parts = [(shape.kinds[place], definition.pattern[place]) for place in shape.plain]
        self.parts.extend([("type", item) for item in definition.own_items()])
        terms = [term for kind, term in self.parts]
        self.kinds = dict(variables(terms))
        self.often = often_in(terms)
        self.many = {}
        for variable, _ in standing(terms):
            self.many[variable] = self.many.get(variable, 0) + 1
        self.names = count_names(terms)
        self.tables = [self.table(kind, term) for kind, term in self.parts]
        self.less = {}

    def table(self, kind, term):
        """The rows of a part by its sight."""
        bindings = [{}]
        for variable, variable_kind in variables((term,)):
            sights = self.scope.sights[variable_kind]
            bindings = [{**binding, variable: sight} for binding in bindings for sight in sights]
        found = {}
        for binding in bindings:
            sight = self.scope.eyes.sight_of(kind, term, binding)
            found.setdefault(sight, []).append((binding, 0))
        return found

    def sights_of_parts(self, sort):
        """The sights that the parts must have for uses of a sort, or None if the pile does not fit."""
        _, plain, first = sort
        if self.definition.own_items():
            return None if first == "()" else [*plain, first]
        shut = self.definition.shape.pile is not None and self.definition.own_rest() is None
        return None if shut and first != "()" else list(plain)

    def project(self, rows, kept):
        """The rows with the given variables alone, each once, at the least cost."""
        found = {}
        for binding, cost in rows:
            left = {variable: binding[variable] for variable in binding if variable in kept}
            for variable in binding:
                if variable not in kept:
                    cost += self.many[variable] * self.cost_of(variable, binding)
            key = tuple([left[variable] for variable in sorted(left)])
            if key not in found or cost < found[key][1]:
                found[key] = (left, cost)
        return list(found.values())

    def cost_of(self, variable, binding):
        """The least number of type names in a term of the sight of a variable."""
        return self.scope.samples.cost(self.kinds[variable], binding[variable])

    def rows_of_part(self, k, sight, kept):
        """The rows of a part with a sight, with those variables alone that are kept or stand often."""
        key = (k, sight, tuple(sorted(kept)))
        if key not in self.less:
            wanted = {**kept, **self.often}
            self.less[key] = self.project(self.tables[k].get(sight, []), wanted)
        return self.less[key]

    def rows(self, sort, kept):
        """The rows, with the kept variables, by which the pattern takes uses of a sort."""
        sights = self.sights_of_parts(sort)
        if sights is None:
            return []
        return self.project(self.joined([self.rows_of_part(k, sight, kept) for k, sight in enumerate(sights)]), kept)

    def rows_with(self, sort, fixed):
        """The rows, with all variables, by which the pattern takes uses of a sort, where some have fixed sights.

        Those come first by which the terms of the others need the fewest type names.
        """
        sights = self.sights_of_parts(sort)
        if sights is None:
            return []
        tables = []
        for table, sight in zip(self.tables, sights):
            tables.append([row for row in table.get(sight, []) if agree(row[0], fixed)])
        found = []
        for binding, _ in self.joined(tables):
            costs = [self.many[row] * self.cost_of(row, binding) for row in binding if row not in fixed]
            found.append((binding, sum(costs)))
        return sorted(found, key=row_cost)

    def joined(self, tables):
        """The rows of all parts together, in which a variable that stands in several of them has one sight."""
        found = [({}, 0)]
        for rows in tables:
            pairs = [(one, other) for one in found for other in rows if agree(one[0], other[0])]
            found = [({**one, **other}, cost + more) for (one, cost), (other, more) in pairs]
        return found


def row_cost(row):
    """The cost of a row."""
    return row[1]


def agree(one, other):
    """Whether two bindings have nothing unlike for any variable."""
    return all([one[variable] == other[variable] for variable in one if variable in other])


def case_of(definition, scope):
    """The case of a definition by the sights of a scope; scopes with the same type names have the same sights."""
    kept, key = scope.library.kept, ("case", definition.mark, scope.told)
    if key not in kept:
        kept[key] = Case(definition, scope)
    return kept[key]
