"""Matching: patterns that take uses or other patterns, and terms in the place of variables."""

from mostspecial.errors import InvalidBinding
from mostspecial.progressions import common
from mostspecial.terms import head_of, is_whole, same_terms, variables

# The kinds of terms, by what they are at their outside.
HEAD_KINDS = {"int": "num", "form": "num", "type": "type", "var": "type", "list": "types"}


def kind_of(term):
    """The kind of a term."""
    return HEAD_KINDS[head_of(term)]


class Fitting:
    """A try to put terms in place of a pattern's variables so that it becomes some given terms.

    Variables in the given terms stand for themselves. `failed` tells that it does not work for any great
    enough numbers and long enough lists in place of the variables of the given terms, whatever these are.
    Otherwise `due` is None if it works, and `binding` tells how; or `due` tells what must first be put in
    place of a variable of the given terms: it is ("list", v) if v stands for lists that have a first item,
    or ("num", v, k, a) if v stands for the numbers k, k + a, k + 2 * a and so on.
    """

    def __init__(self, pattern, terms):
        self.binding = {}
        self.due = None
        self.failed = len(pattern) != len(terms)
        self.todo = list(zip(pattern, terms))
        while self.todo and not self.failed:
            part, term = self.todo.pop()
            self.fit(part, term)

    def bind(self, variable, term):
        """Put a term in place of a variable of the pattern."""
        if variable not in self.binding:
            self.binding[variable] = term
        elif not same_terms(self.binding[variable], term):
            self.failed = True

    def need(self, due):
        """Note what must first be put in place of a variable of the given terms."""
        if self.due is None:
            self.due = due

    def fit(self, part, term):
        """Fit one term of the pattern."""
        if kind_of(part) != kind_of(term):
            self.failed = True
            return
        head = head_of(part)
        if head == "var":
            self.bind(part[1], term)
        elif head == "type":
            self.fit_type(part, term)
        elif head == "list":
            self.fit_list(part, term)
        elif head == "form":
            self.fit_form(part, term)
        elif part != term:
            self.failed = True

    def fit_type(self, part, term):
        """Fit a type."""
        if head_of(term) == "var" or part[1] != term[1] or len(part[2]) != len(term[2]):
            self.failed = True
        else:
            self.todo.extend(list(zip(part[2], term[2])))

    def fit_list(self, part, term):
        """Fit a list."""
        _, items, rest = part
        many = len(items)
        if rest is None and (term[2] is not None or many != len(term[1])):
            self.failed = True
        elif many > len(term[1]) and term[2] is None:
            self.failed = True
        elif many > len(term[1]):
            self.need(("list", term[2]))
        elif rest is not None:
            self.bind(rest, ("list", term[1][many:], term[2]))
        self.todo.extend(list(zip(items, term[1])))

    def fit_form(self, part, term):
        """Fit a form."""
        _, times, variable, plus = part
        if isinstance(term, int):
            if term < plus or (term - plus) % times != 0:
                self.failed = True
            else:
                self.bind(variable, (term - plus) // times)
            return
        step, first = term[1], term[3]
        shared = common((times, plus), (step, first))
        if shared is None:
            self.failed = True
        elif shared != (step, first):
            self.need(("num", term[2], (shared[1] - first) // step, shared[0] // step))
        else:
            self.bind(variable, ("form", step // times, term[2], (first - plus) // times))


def fitted(pattern, terms):
    """The dict of the terms in place of a pattern's variables with which it becomes some terms, or None."""
    fitting = Fitting(pattern, terms)
    return None if fitting.failed or fitting.due is not None else fitting.binding


def matching(pattern, use):
    """The dict of the closed terms with which a pattern becomes a use, or None."""
    return fitted(pattern, use)


def filled(terms, binding):
    """The terms with those of a binding in place of their variables."""
    for variable, kind in variables(terms):
        if not is_shaped(binding.get(variable), kind):
            raise InvalidBinding(variable)
    return put_in_all(terms, binding)


def is_shaped(value, kind):
    """Whether a value has the form of a term of a kind, with any names and of any size."""
    todo = [(value, kind)]
    while todo:
        part, part_kind = todo.pop()
        inner = types_in(part, part_kind)
        if inner is None:
            return False
        todo.extend([(below, "type") for below in inner])
    return True


def types_in(value, kind):
    """What must be types in a value for it to have the form of a term of a kind; None if it never has."""
    if kind == "num":
        return () if is_number_or_form(value) else None
    if not isinstance(value, tuple):
        return None
    if len(value) == 2:
        return () if kind == "type" and value[0] == "var" and isinstance(value[1], str) else None
    if len(value) != 3:
        return None
    if kind == "type":
        return value[2] if value[0] == "type" and isinstance(value[1], str) and isinstance(value[2], tuple) else None
    fits = value[0] == "list" and (value[2] is None or isinstance(value[2], str))
    return value[1] if fits and isinstance(value[1], tuple) else None


def is_number_or_form(value):
    """Whether a value has the form of a term of the kind num."""
    if not isinstance(value, tuple):
        return is_whole(value) and value >= 0
    if len(value) != 4 or value[0] != "form" or not isinstance(value[2], str):
        return False
    return is_whole(value[1]) and value[1] >= 1 and is_whole(value[3]) and value[3] >= 0


def put_in_all(terms, binding):
    """The terms with those of a binding, which has all that are needed, in place of their variables."""
    return tuple([put_in(term, binding) for term in terms])


def put_in(term, binding):
    """A term with those of a binding in place of its variables."""
    # What has been made of the inner types waits in `done` until the type around them is due.
    todo, done = [(term, False)], []
    while todo:
        part, ready = todo.pop()
        head = head_of(part)
        inner = part[2] if head == "type" else part[1] if head == "list" else ()
        if inner and not ready:
            todo.append((part, True))
            todo.extend([(below, False) for below in inner[::-1]])
        else:
            first = len(done) - len(inner)
            made = tuple(done[first:])
            del done[first:]
            done.append(put_in_outside(part, made, binding))
    return done[0]


def put_in_outside(term, inner, binding):
    """A term with the given inner types, and with terms in place of the variables outside of these."""
    head = head_of(term)
    if head == "int":
        return term
    if head == "var":
        return binding[term[1]]
    if head == "type":
        return ("type", term[1], inner)
    if head == "form":
        return put_in_form(term, binding[term[2]])
    if term[2] is None:
        return ("list", inner, None)
    _, items, rest = binding[term[2]]
    return ("list", inner + items, rest)


def put_in_form(form, new):
    """A form with a term of the kind num in place of its variable."""
    _, times, _, plus = form
    if isinstance(new, int):
        return times * new + plus
    return ("form", times * new[1], new[2], times * new[3] + plus)


def more_special(p, q):
    """Whether the pattern p is more special than the pattern q, which may be the same."""
    return fitted(q, p) is not None


def alike(p, q):
    """Whether two patterns are alike."""
    return more_special(p, q) and more_special(q, p)


def bare(variable, kind):
    """The bare variable of a kind."""
    if kind == "type":
        return ("var", variable)
    return ("form", 1, variable, 0) if kind == "num" else ("list", (), variable)


def renamed(p):
    """The pattern with v0, v1, .. as its variables, in their order."""
    binding = {}
    for k, (variable, kind) in enumerate(variables(p)):
        binding[variable] = bare(f"v{k}", kind)
    return put_in_all(p, binding)
