"""Patterns split into cases, until each case lies within one pattern or a use is found that none takes."""

from mostspecial.matches import Fitting, matching, more_special, put_in_all, put_in_outside, renamed
from mostspecial.terms import SMALL_LETTERS, head_of, is_whole, named_types, variables

# A split is ("list", v) into the empty list and the lists that have a first item, or ("num", v, k, a) into
# the numbers below k, one by one, and from k on those of each remainder by a. A list of takers has tuples
# of an index and a pattern.


def replaced(pattern, variable, new):
    """A pattern with a term in place of a variable of the kind num or types."""
    # Such variables stand outside of all types, so these need not be walked.
    binding = {variable: new}
    found = []
    for term in pattern:
        if head_of(term) in ("form", "list") and term[2] == variable:
            term = put_in_outside(term, term[1], binding)
        found.append(term)
    return tuple(found)


def cases(pattern, split):
    """The renamed patterns into which a split divides a renamed pattern."""
    if split[0] == "list":
        ends = [("list", (), None), ("list", (("var", "item"),), "rest")]
    else:
        _, _, low, step = split
        ends = [*list(range(low)), *[("form", step, "number", low + k) for k in range(step)]]
    return [renamed(replaced(pattern, split[1], end)) for end in ends]


def split_toward(pattern, taker):
    """The first split of a pattern by which a case comes nearer to lying within a taker.

    It is () if the whole pattern lies within it, and None if no such case ever does, but for those in which
    a number or a list is told wholly.
    """
    first = ()
    while True:
        fitting = Fitting(taker, pattern)
        if fitting.failed:
            return None
        if fitting.due is None:
            return first
        first = first or fitting.due
        pattern = nearer(pattern, fitting.due)


def nearer(pattern, due):
    """A pattern with what is due in place of a variable."""
    # The variable that is replaced lends its name to new ones, which are unlike all others thereby.
    variable = due[1]
    if due[0] == "list":
        return replaced(pattern, variable, ("list", (("var", variable + " item"),), variable + " rest"))
    return replaced(pattern, variable, ("form", due[3], variable + " less", due[2]))


def many_cases(split):
    """The number of cases into which a split divides."""
    return 2 if split[0] == "list" else split[2] + split[3]


def search(pattern, takers, told):
    """A tree for a renamed pattern and takers, and None; or None, and a use that no taker takes.

    The names that are told are not among the strange ones in the use.
    """
    found = [split_toward(pattern, taker) for k, taker in takers]
    for (k, _), split in zip(takers, found):
        if split == ():
            return ("in", k), None
    splits = [split for split in found if split is not None]
    if not splits:
        return None, far_use(pattern, [taker for k, taker in takers], told)
    split = min(splits, key=many_cases)
    trees = []
    for part in cases(pattern, split):
        tree, use = search(part, takers, told)
        if use is not None:
            return None, use
        trees.append(tree)
    return ((*split, *trees) if split[0] == "list" else (*split, tuple(trees))), None


def far_use(pattern, patterns, told):
    """A use that a pattern takes and none of some patterns, whose numbers and lists are unlike enough.

    No pattern lies nearer to any of these by a split: so none of them takes such a use with lists that are
    longer than theirs and end in names of their own, and with numbers that no equation of theirs ties.
    """
    lists = [term for row in patterns for term in row if head_of(term) == "list"]
    longest = max([len(term[1]) for term in lists], default=0) + 1
    standing_names = [name for row in [pattern, *patterns] for name, many in named_types(row)]
    strange = strange_names([*told, *standing_names], len(variables(pattern)) * longest)
    size = 0
    while True:
        use = put_in_all(pattern, far_binding(pattern, strange, size, min(size, longest)))
        if all([matching(row, use) is None for row in patterns]):
            return use
        size += 1


def far_binding(pattern, strange, size, length):
    """Closed terms for the variables of a pattern: strange names, lists of a length, and powers of a size."""
    # An equation that ties two powers holds for a few sizes only, so another size breaks them all.
    left, power, binding = list(strange), 1, {}
    for variable, kind in variables(pattern):
        if kind == "num":
            power *= size
            binding[variable] = power
        elif kind == "type":
            binding[variable] = ("type", left.pop(), ())
        else:
            binding[variable] = ("list", tuple([("type", left.pop(), ()) for _ in range(length)]), None)
    return binding


def strange_names(used, many):
    """As many type names that are not used."""
    barred = {name: True for name in used}
    found, k = [], 0
    while len(found) < many:
        name = strange_name(k)
        if name not in barred:
            found.append(name)
        k += 1
    return found


def strange_name(k):
    """A type name, another one for each number from 0 on."""
    name = "Other"
    while k > 0:
        name, k = name + SMALL_LETTERS[k % 26], k // 26
    return name


def is_tree(pattern, takers, value):
    """Whether a value is a tree for a pattern and a dict of patterns by their indices."""
    todo = [(renamed(pattern), value)]
    while todo:
        part, tree = todo.pop()
        below = trees_below(part, takers, tree)
        if below is None:
            return False
        todo.extend(below)
    return True


def trees_below(pattern, takers, value):
    """The tuples of a case and what must be a tree for it, if a value is a tree; None if it is none at its outside."""
    if not isinstance(value, tuple) or not value:
        return None
    if value[0] == "in":
        return [] if is_end(pattern, takers, value) else None
    split = split_of(value)
    if split is None or (split[1], "num" if split[0] == "num" else "types") not in variables(pattern):
        return None
    trees = value[2:] if split[0] == "list" else value[4]
    return list(zip(cases(pattern, split), trees))


def is_end(pattern, takers, value):
    """Whether a tuple that begins with "in" is a tree for a pattern and a dict of patterns."""
    if len(value) != 2 or not is_whole(value[1]) or value[1] not in takers:
        return False
    return more_special(pattern, takers[value[1]])


def split_of(value):
    """The split of a tuple that looks like a tree with further trees in it, else None."""
    if len(value) == 4 and value[0] == "list":
        return value[:2]
    if len(value) != 5 or value[0] != "num" or not isinstance(value[4], tuple):
        return None
    low, step = value[2], value[3]
    if not is_whole(low) or not is_whole(step) or low < 0 or step < 1:
        return None
    return value[:4] if len(value[4]) == low + step else None
