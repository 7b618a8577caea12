"""Threads: what goes on from a use to a use that it asks, where the ask is still."""

from mostspecial.choices import use_text
from mostspecial.expressions import all_in
from mostspecial.places import bare_variable
from mostspecial.terms import standing

# A thread is a tuple (a, b, falls): a is a carried place, the place of the pile or a constant of the first use,
# b is one of the other use, and `falls` tells that there is more of b than of a, or less left to do.
# Each still ask has this one, too, which tells just that it is still.
STILL = (None, None, False)


def threads_of(groups, sort, ask):
    """The threads of all that uses of a sort ask in one way, as the keys of a dict."""
    definition, rows = groups.inner_uses(sort, ask)
    found = {}
    for handed in rows:
        if is_still(groups.scope.samples, sort, definition, handed):
            for thread in all_threads(definition, handed):
                found[thread] = True
    return found


def is_still(samples, sort, definition, handed):
    """Whether an inner use takes on whole all that is looked at in uses of a sort, but what is known."""
    _, plain, first = sort
    shape = definition.shape
    whole = [*handed.plain, *handed.stack]
    for place, sight in zip(shape.plain, plain):
        if not samples.is_single(shape.kinds[place], sight) and definition.pattern[place] not in whole:
            return False
    if first is None or first == "()" or samples.is_single("type", first):
        return True
    items = definition.own_items()
    return items[0] in whole if items else handed.how == "laid"


def all_threads(definition, handed):
    """The threads of the asks by an inner use that are still."""
    found = [STILL, *ties(definition, handed)]
    if handed.how == "laid":
        found.append((definition.shape.pile, handed.shape.pile, False))
    if handed.many == -1:
        found.extend([(word, handed.word, True) for word in constants_asking(definition, handed)])
    return found


def ties(definition, handed):
    """The ties of the carried places of a definition to those of an inner use."""
    found = []
    for a in definition.shape.carried:
        variable = bare_variable(definition.pattern[a])
        for b in handed.shape.carried:
            term = handed.terms[b]
            if variable in [other for other, kind in standing((term,))]:
                found.append((a, b, bare_variable(term) != variable))
    return found


def constants_asking(definition, handed):
    """The constants of a definition that ask an inner use for a constant, at once or by others that they name."""
    text = use_text(handed.generic, handed.terms)
    parts = {member[1]: all_in(member[2]) for member in definition.members if member[0] == "const"}
    found = {}
    for word in parts:
        rows = [part for part in parts[word] if part[0] == "const" and part[3] == handed.word]
        if text in [use_text(part[1], part[2]) for part in rows]:
            found[word] = True
    more = list(found)
    while more:
        left = [word for word in parts if word not in found]
        named = [word for word in left if any([("name", other) in parts[word] for other in more])]
        found.update({word: True for word in named})
        more = named
    return list(found)


def told(threads):
    """The threads that papers tell: not the one that tells just that an ask is still."""
    return [thread for thread in threads if thread != STILL]
