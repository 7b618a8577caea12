"""Texts of terms: writing and reading them."""

from mostspecial.errors import InvalidText
from mostspecial.terms import DIGITS, GREATEST, LETTERS, VARIABLE_SIGNS, check_kind, check_kinds, head_of
from mostspecial.terms import is_term, is_type_name, is_variable, scan_places

MOST_DIGITS = 25


def form_text(term):
    """The text of a form."""
    times = "" if term[1] == 1 else f"{term[1]}*"
    plus = "" if term[3] == 0 else f"+{term[3]}"
    return f"{times}#{term[2]}{plus}"


def spaced(parts):
    """The parts with a comma between each two."""
    found = []
    for part in parts:
        if found:
            found.append(",")
        found.append(part)
    return found


def spelled(term):
    """What the text of a term is joined of: strings, and terms that stand in it."""
    head = head_of(term)
    if head == "int":
        return [str(term)]
    if head == "var":
        return ["?" + term[1]]
    if head == "form":
        return [form_text(term)]
    if head == "type":
        return [term[1], "<", *spaced(term[2]), ">"] if term[2] else [term[1]]
    rest = [] if term[2] is None else ["..?" + term[2]]
    return ["(", *spaced([*term[1], *rest]), ")"]


def joined(parts):
    """The text of strings and terms, one behind another."""
    todo = parts[::-1]
    found = []
    while todo:
        part = todo.pop()
        if isinstance(part, str):
            found.append(part)
        else:
            todo.extend(spelled(part)[::-1])
    return "".join(found)


def write_term(term):
    """The text of a term."""
    return joined([term])


def write_terms(terms):
    """The texts of terms, with commas between them."""
    return joined(spaced(terms))


# Each function below whose name ends in _at reads what begins at a place of a text. It returns what it
# has read and the place behind it, or None if there is no such thing; what is read is written shortly.


def run_at(text, at, signs):
    """The longest string of the given signs at a place of a text; it may be empty."""
    end = at
    while end < len(text) and text[end] in signs:
        end += 1
    return text[at:end]


def number_at(text, at):
    """Read a number."""
    digits = run_at(text, at, DIGITS)
    if not 1 <= len(digits) <= MOST_DIGITS or digits[0] == "0" and digits != "0":
        return None
    number = int(digits)
    return (number, at + len(digits)) if number <= GREATEST else None


def variable_at(text, at, mark):
    """Read a variable behind the given mark."""
    if not text.startswith(mark, at):
        return None
    at = at + len(mark)
    variable = run_at(text, at, VARIABLE_SIGNS)
    return (variable, at + len(variable)) if is_variable(variable) else None


def form_at(text, at, times):
    """Read a form, with the number that stands ahead of its variable."""
    found = variable_at(text, at, "#")
    if found is None:
        return None
    variable, end = found
    if not text.startswith("+", end):
        return ("form", times, variable, 0), end
    found = number_at(text, end + 1)
    if found is None or found[0] == 0:
        return None
    return ("form", times, variable, found[0]), found[1]


def num_at(text, at):
    """Read a term of the kind num."""
    if text.startswith("#", at):
        return form_at(text, at, 1)
    found = number_at(text, at)
    if found is None or not text.startswith("*", found[1]):
        return found
    return form_at(text, found[1] + 1, found[0]) if found[0] > 1 else None


def name_at(text, at):
    """Read a variable of the kind type, or a type as if it had no arguments."""
    if text.startswith("?", at):
        found = variable_at(text, at, "?")
        return None if found is None else (("var", found[0]), found[1])
    name = run_at(text, at, LETTERS)
    return (("type", name, ()), at + len(name)) if is_type_name(name) else None


def type_at(text, at):
    """Read a term of the kind type."""
    # Types are as deep as 200: those that have begun, with the args read so far, wait in a list.
    begun = []
    while True:
        found = name_at(text, at)
        if found is None:
            return None
        term, at = found
        if term[0] == "type" and text.startswith("<", at):
            begun.append((term[1], []))
            at += 1
            continue
        while begun:
            begun[-1][1].append(term)
            sign = text[at:at + 1]
            at += 1
            if sign == ",":
                break
            if sign != ">":
                return None
            name, args = begun.pop()
            term = ("type", name, tuple(args))
        else:
            return term, at


def list_at(text, at):
    """Read a term of the kind types, of which the bracket stands at the place."""
    if text.startswith("()", at):
        return ("list", (), None), at + 2
    items = []
    while True:
        # Here, a bracket or a comma stands at the place.
        found = variable_at(text, at + 1, "..?")
        if found is not None:
            rest, at = found
            return (("list", tuple(items), rest), at + 1) if text.startswith(")", at) else None
        found = type_at(text, at + 1)
        if found is None:
            return None
        item, at = found
        items.append(item)
        if text.startswith(")", at):
            return ("list", tuple(items), None), at + 1
        if not text.startswith(",", at):
            return None


def term_at(text, at):
    """Read a term of any kind."""
    sign = text[at:at + 1]
    if sign == "(":
        return list_at(text, at)
    if sign == "#" or sign != "" and sign in DIGITS:
        return num_at(text, at)
    return type_at(text, at)


def terms_at(text, at):
    """Read one or more terms with commas between them."""
    found = term_at(text, at)
    terms = []
    while found is not None:
        term, at = found
        terms.append(term)
        if not text.startswith(",", at):
            return tuple(terms), at
        found = term_at(text, at + 1)
    return None


def read_term(text, kind, names):
    """The term of a kind with this text."""
    check_kind(kind)
    found = term_at(text, 0) if isinstance(text, str) else None
    if found is None or found[1] != len(text) or not is_term(found[0], kind, names):
        raise InvalidText(text)
    return found[0]


def read_terms(text, kinds, names):
    """The terms at places of these kinds with this text."""
    check_kinds(kinds)
    if not isinstance(text, str):
        raise InvalidText(text)
    found = terms_at(text, 0) if text else ((), 0)
    if found is None or found[1] != len(text) or scan_places(found[0], kinds, names) is None:
        raise InvalidText(text)
    return found[0]
