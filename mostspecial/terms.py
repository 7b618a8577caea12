"""Names and terms: words, type names, variables, and what is a term, a pattern or a use."""

from mostspecial.errors import InvalidKind, InvalidKinds, InvalidNames

SMALL_LETTERS = "abcdefghijklmnopqrstuvwxyz"
GREAT_LETTERS = "ABCDEFGHIJKLMNOPQRSTUVWXYZ"
LETTERS = "ABCDEFGHIJKLMNOPQRSTUVWXYZabcdefghijklmnopqrstuvwxyz"
DIGITS = "0123456789"
VARIABLE_SIGNS = "abcdefghijklmnopqrstuvwxyz0123456789"
NO_WORDS = ("see", "name", "gen", "inner", "for", "const", "fun", "print", "if", "then", "else")
TERM_KINDS = ("type", "num", "types")
PLACE_KINDS = ("type", "num", "types", "pile")
MOST_NAMES = 24
MOST_ARGS = 3
MOST_PLACES = 4
MOST_SIGNS = 4000
MOST_DEEP = 200
MOST_PATTERN_SIGNS = 12
GREATEST = 1000000000000000000000000


def has_only(text, signs):
    """Whether all signs of a text are among the given ones."""
    return all(sign in signs for sign in text)


def is_word(value):
    """Whether a value is a word."""
    if not isinstance(value, str) or not 1 <= len(value) <= 8:
        return False
    return has_only(value, SMALL_LETTERS) and value not in NO_WORDS


def is_type_name(value):
    """Whether a value is a type name."""
    if not isinstance(value, str) or not 1 <= len(value) <= 8:
        return False
    return value[0] in GREAT_LETTERS and has_only(value, LETTERS)


def is_variable(value):
    """Whether a value is a variable."""
    if not isinstance(value, str) or not 1 <= len(value) <= 4:
        return False
    return value[0] in SMALL_LETTERS and has_only(value, VARIABLE_SIGNS)


def is_whole(value):
    """Whether a value is an integer, which True and False are not."""
    return isinstance(value, int) and not isinstance(value, bool)


def is_number(value, least):
    """Whether a value is an integer from the least one on that terms may have."""
    return is_whole(value) and least <= value <= GREATEST


def is_name_row(value):
    """Whether a value is a tuple of a type name and a count."""
    if not isinstance(value, tuple) or len(value) != 2:
        return False
    return is_type_name(value[0]) and is_whole(value[1]) and 0 <= value[1] <= MOST_ARGS


def are_name_rows(value):
    """Whether a value is a list of different type names with their counts."""
    if not isinstance(value, (list, tuple)) or len(value) > MOST_NAMES:
        return False
    if not all(is_name_row(row) for row in value):
        return False
    return len({row[0] for row in value}) == len(value)


class Names:
    """The type names that there are, with their counts."""

    def __init__(self, names):
        if not are_name_rows(names):
            raise InvalidNames(names)
        self.told = tuple(sorted(names))
        self._counts = {name: count for name, count in names}

    def count_of(self, name):
        """The count of a type name, 0 if it is strange."""
        return self._counts.get(name, 0)


def type_parts(value, names):
    """The variable and the args of what looks like a type at its outside, else None."""
    if len(value) == 2:
        return (value[1], ()) if value[0] == "var" and is_variable(value[1]) else None
    if len(value) != 3 or value[0] != "type" or not is_type_name(value[1]):
        return None
    args = value[2]
    if not isinstance(args, tuple) or len(args) != names.count_of(value[1]):
        return None
    return None, args


def form_parts(value):
    """The variable of a form, and no args; None if the value is no form."""
    if len(value) != 4 or value[0] != "form" or not is_variable(value[2]):
        return None
    return (value[2], ()) if is_number(value[1], 1) and is_number(value[3], 0) else None


def list_parts(value):
    """The rest and the items of what looks like a list at its outside, else None."""
    if len(value) != 3 or value[0] != "list" or not isinstance(value[1], tuple):
        return None
    return (value[2], value[1]) if value[2] is None or is_variable(value[2]) else None


def parts_of(value, kind, names):
    """The variable, or None, and the types that stand in a value that looks like a term of a kind.

    It is None if the value is no such term; the types that stand in it are not looked at.
    """
    if kind == "num" and is_number(value, 0):
        return None, ()
    if not isinstance(value, tuple):
        return None
    if kind == "num":
        return form_parts(value)
    return type_parts(value, names) if kind == "type" else list_parts(value)


def scan(values, kinds, names):
    """How many signs, and how many variables, values have that are terms of these kinds.

    It is None unless they are such terms, within the limits together and with one kind for each variable.
    """
    todo = [(value, kind, 1) for value, kind in zip(values, kinds)]
    signs, found = 0, {}
    while todo:
        value, kind, deep = todo.pop()
        parts = parts_of(value, kind, names)
        if parts is None:
            return None
        variable, inner = parts
        if variable is not None and found.setdefault(variable, kind) != kind:
            return None
        if kind != "types" or variable is not None:
            signs += 1
        if signs > MOST_SIGNS or deep > MOST_DEEP:
            return None
        below = deep + 1 if kind == "type" else deep
        todo.extend([(part, "type", below) for part in inner])
    return signs, len(found)


def scan_places(value, kinds, names):
    """The scan of a tuple that has a term for each place, else None."""
    if not isinstance(value, tuple) or len(value) != len(kinds):
        return None
    return scan(value, plain_kinds(kinds), names)


def plain_kinds(kinds):
    """The kinds of the terms that stand at places of these kinds."""
    return ["types" if kind == "pile" else kind for kind in kinds]


def check_kind(kind):
    """Raise InvalidKind unless terms have this kind."""
    if kind not in TERM_KINDS:
        raise InvalidKind(kind)


def are_kinds(value, allowed):
    """Whether a value is a list of kinds of places, all of them allowed."""
    if not isinstance(value, (list, tuple)) or len(value) > MOST_PLACES:
        return False
    return all(kind in allowed for kind in value)


def check_kinds(kinds):
    """Raise InvalidKinds unless these are the kinds of the places of a generic."""
    if not are_kinds(kinds, PLACE_KINDS):
        raise InvalidKinds(kinds)


def is_term(value, kind, names):
    """Whether a value is a term of a kind, within the limits."""
    check_kind(kind)
    return scan((value,), (kind,), names) is not None


def is_pattern(value, kinds, names):
    """Whether a value is a pattern of a generic with places of these kinds."""
    check_kinds(kinds)
    found = scan_places(value, kinds, names)
    return found is not None and found[0] <= MOST_PATTERN_SIGNS


def is_use(value, kinds, names):
    """Whether a value is a use of a generic with places of these kinds."""
    check_kinds(kinds)
    return are_use_terms(value, kinds, names)


def are_use_terms(value, kinds, names):
    """Whether a value is a tuple of closed terms for places of these kinds."""
    found = scan_places(value, kinds, names)
    return found is not None and found[1] == 0


def head_of(term):
    """What a term is: "int", "form", "type", "var" or "list"."""
    return "int" if isinstance(term, int) else term[0]


def pieces(terms):
    """All that stands in terms, in its order, at every depth; a rest v as ("rest", v)."""
    # Terms are as deep as 200, so a list of what is left to do stands for calls within calls.
    todo = list(terms)[::-1]
    found = []
    while todo:
        term = todo.pop()
        found.append(term)
        head = head_of(term)
        if head == "list" and term[2] is not None:
            todo.append(("rest", term[2]))
        if head == "list":
            todo.extend(term[1][::-1])
        elif head == "type":
            todo.extend(term[2][::-1])
    return found


def standing(terms):
    """The tuples (variable, kind) of all places at which variables stand in terms, in their order."""
    found = []
    for piece in pieces(terms):
        head = head_of(piece)
        if head == "var":
            found.append((piece[1], "type"))
        elif head == "form":
            found.append((piece[2], "num"))
        elif head == "rest":
            found.append((piece[1], "types"))
    return found


def variables(terms):
    """The tuples (variable, kind) of the variables of terms, each once, in their order."""
    found = {}
    for variable, kind in standing(terms):
        found.setdefault(variable, kind)
    return list(found.items())


def is_closed(term):
    """Whether no variable stands in a term."""
    return not standing((term,))


def count_signs(terms):
    """How many signs terms have together."""
    return sum(1 for piece in pieces(terms) if head_of(piece) != "list")


def named_types(terms):
    """The tuples (type name, number of args) of all places at which types stand in terms."""
    return [(piece[1], len(piece[2])) for piece in pieces(terms) if head_of(piece) == "type"]


def same_terms(one, other):
    """Whether two terms, or tuples of terms, are equal."""
    # Python's own comparison of tuples goes one call deeper with each tuple; this one does not.
    todo = [(one, other)]
    while todo:
        left, right = todo.pop()
        if isinstance(left, tuple) and isinstance(right, tuple):
            if len(left) != len(right):
                return False
            todo.extend(list(zip(left, right)))
        elif left != right:
            return False
    return True
