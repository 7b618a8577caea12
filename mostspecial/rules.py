"""The rules of libraries that take apart, but for those of size."""

from mostspecial.expressions import all_in
from mostspecial.matches import bare
from mostspecial.meetings import meetings
from mostspecial.places import bare_variable, often_in
from mostspecial.terms import head_of, is_closed, pieces, standing, variables
from mostspecial.termtexts import write_term

MOST_ITEMS = 3
MOST_LAYING = 3
CONSTANT_HEADS = ("num", "of", "name", "const", "add", "sub", "mul")


def broken_rule(library):
    """A tuple of a generic and the name of a rule that does not hold for it, or None."""
    for word, kinds, _ in library.generics:
        if kinds.count("pile") > 1:
            return word, "pile"
    for definition in library.definitions:
        if not keeps_pile(definition):
            return definition.generic, "pile"
    laying = [definition for definition in library.definitions if lays_more(definition)]
    if len(laying) > MOST_LAYING:
        return laying[0].generic, "pile"
    for definition in library.definitions:
        what = broken_by(definition)
        if what is not None:
            return definition.generic, what
    for meeting in meetings(library):
        if not all(keeps_apart(meeting, handed) for handed in meeting.definition.handed):
            return meeting.definition.generic, "apart"
    return None


def broken_by(definition):
    """The name of a rule that a definition breaks by itself, or None; its piles have been looked at."""
    if not keeps_part(definition):
        return "part"
    if not all(keeps_once(handed) for handed in definition.handed):
        return "once"
    if not keeps_twice(definition):
        return "twice"
    if not all(keeps_carried(definition, handed) for handed in definition.handed):
        return "carried"
    return None if keeps_const(definition) else "const"


def keeps_pile(definition):
    """Whether a definition keeps the rule of piles by itself."""
    pile = definition.shape.pile_of(definition.pattern)
    if pile is not None and not is_pile(pile, definition.pattern):
        return False
    rests = seen_rests(definition)
    for handed in definition.handed:
        if len(handed.stack) > MOST_ITEMS or handed.how == "beside" and handed.rest not in rests:
            return False
        own = definition.own_rest()
        elsewhere = [variable for variable, kind in standing(handed.terms)].count(own)
        if own is not None and elsewhere > (1 if handed.how == "laid" else 0):
            return False
    return True


def is_pile(pile, pattern):
    """Whether a list may stand at the pile of a pattern."""
    _, items, rest = pile
    if len(items) > 1 or items and rest is None:
        return False
    return rest not in often_in(pattern)


def seen_rests(definition):
    """The rests that a definition's pattern has at plain places."""
    lists = [definition.pattern[place] for place in definition.shape.plain if definition.shape.kinds[place] == "types"]
    return [term[2] for term in lists if term[2] is not None]


def lays_more(definition):
    """Whether an inner use of a definition has more items ahead of its own pile's rest than its pattern has."""
    many = len(definition.own_items())
    return any(handed.how == "laid" and len(handed.stack) > many for handed in definition.handed)


def keeps_part(definition):
    """Whether all that a definition hands on, but rests of piles, is closed or a part."""
    parts = {write_term(part): True for part in parts_of(definition)}
    for handed in definition.handed:
        for term in [*handed.plain, *handed.stack]:
            if not is_closed(term) and write_term(term) not in parts:
                return False
    return True


def parts_of(definition):
    """The parts of a definition."""
    found = []
    for place in definition.shape.seen:
        term = definition.pattern[place]
        head = head_of(term)
        found.extend([piece for piece in pieces((term,)) if head_of(piece) in ("type", "var")])
        if definition.shape.kinds[place] == "types":
            found.extend([("list", term[1][k:], term[2]) for k in range(len(term[1]) + 1)])
        elif head == "form" and term[1] == 1:
            found.extend([("form", 1, term[2], j) for j in range(term[3] + 1)])
        elif head == "form":
            found.extend([term, bare(term[2], "num")])
    return found


def keeps_once(handed):
    """Whether no variable stands twice in what an inner use hands on."""
    return not often_in(handed.all_seen())


def keeps_twice(definition):
    """Whether variables that stand twice in a definition's pattern are of the kind type and not handed on."""
    for variable, kind in variables(definition.pattern):
        if variable in definition.often:
            seen = [standing(handed.all_seen()) for handed in definition.handed]
            if kind != "type" or any((variable, kind) in row for row in seen):
                return False
    return True


def keeps_carried(definition, handed):
    """Whether an inner use of a definition keeps the rule of carried places."""
    for place in handed.shape.carried:
        term = handed.terms[place]
        if head_of(term) == "form" and term[1] != 1:
            return False
    often = often_in(handed.terms)
    own = [bare_variable(definition.pattern[place]) for place in definition.shape.carried]
    return not any(variable in often for variable in own)


def keeps_const(definition):
    """Whether the constants of a definition are built as they may be."""
    for member in definition.members:
        if member[0] == "const" and not all(part[0] in CONSTANT_HEADS for part in all_in(member[2])):
            return False
    return True


def keeps_apart(meeting, handed):
    """Whether an inner use keeps the rule of what stands apart, by the meet with another definition."""
    rows = meeting.handed_on(handed)
    if often_in([term for kind, term in rows]):
        return False
    for _, term in rows:
        if bare_variable(term) is None and any(variable in meeting.often for variable, kind in standing((term,))):
            return False
    return True
