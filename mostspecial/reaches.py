"""Which sights the terms with some type names have."""


def number_sights(eyes, most):
    """The sights of numbers, or None if they are more than so many."""
    if eyes.bound + eyes.step > most:
        return None
    return [*[("far", k) for k in range(eyes.step)], *[("small", k) for k in range(eyes.bound)]]


def told_apart(sights, looks):
    """One of the sights for each choice of the given looks that some sight has."""
    found = {}
    for sight in sights:
        found.setdefault(tuple([look for look in looks if look in sight]), sight)
    return list(found.values())


def named_sights(eyes, name, count, known):
    """The sights of types with a name, by those that are known for its args."""
    alive = [[row for row in eyes.by_name.get(name, []) if len(row[1]) == count]]
    for k in range(count):
        found = {}
        for rows in alive:
            # Sights with the same looks at an arg are not told apart there, so one of them is enough.
            for sight in told_apart(known, [looks[k] for _, looks in rows]):
                left = [row for row in rows if row[1][k] in sight]
                found[tuple([look for look, _ in left])] = left
        alive = list(found.values())
    return [tuple(sorted([*eyes.anything, *[look for look, _ in rows]])) for rows in alive]


def type_sights(eyes, names, most):
    """The sights of types with some names (type name, count) and strange ones, or None if they are too many."""
    found = {eyes.type_sight("", ()): True}
    many = 0
    while many < len(found) <= most:
        many = len(found)
        known = list(found)
        for name, count in names:
            for sight in named_sights(eyes, name, count, known):
                found[sight] = True
    return sorted(found) if len(found) <= most else None


def list_sights(eyes, items, most):
    """The sights of lists whose items have some sights, or None if they are too many."""
    firsts = told_apart(items, [first for k, first, rest in eyes.longer])
    found = {eyes.empty_sight(): True}
    todo = list(found)
    while todo and len(found) <= most:
        behind = todo.pop()
        for item in firsts:
            sight = eyes.longer_sight(item, behind)
            if sight not in found:
                found[sight] = True
                todo.append(sight)
    return sorted(found) if len(found) <= most else None


def all_sights(eyes, names, most):
    """The sights of each kind of the terms with some names and strange ones, or None if they are too many."""
    types, nums = type_sights(eyes, names, most), number_sights(eyes, most)
    if types is None or nums is None:
        return None
    lists = list_sights(eyes, types, most)
    return None if lists is None else {"type": types, "num": nums, "types": lists}
