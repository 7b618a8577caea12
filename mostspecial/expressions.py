"""Expressions and their texts: what stands in them, reading and writing them."""

from mostspecial.terms import DIGITS, SMALL_LETTERS, is_word
from mostspecial.termtexts import number_at, run_at, terms_at, variable_at, write_terms

MOST_DEEP = 8
MOST_NESTED = 8
HEADS = {"+": "add", "-": "sub", "*": "mul", "<": "less", "=": "same"}
SIGNS = {"add": "+", "sub": "-", "mul": "*", "less": "<", "same": "="}

# How strongly the parts of an expression hold together: where a text has a place for strong ones only,
# weaker ones stand in brackets. A place of each strength takes what is stronger, too.
WEAK = 0
STRONG = 3
STRENGTHS = {"if": 0, "less": 0, "same": 0, "add": 1, "sub": 1, "mul": 2}
# The strengths that the places on the two sides of a sign ask for.
SIDES = {"add": (1, 2), "sub": (1, 2), "mul": (2, 3), "less": (1, 1), "same": (1, 1)}


def inner_of(expression):
    """The expressions that stand in an expression, but not deeper, in their order."""
    head = expression[0]
    if head == "own":
        return expression[2]
    if head == "call":
        return expression[4]
    return expression[1:] if head == "if" or head in SIGNS else ()


def with_depths(expression):
    """An expression and all that stand in it, in their order, each with its number of expressions around it."""
    # What is read may be nested more deeply than an expression may be, before it is refused.
    todo, found = [(expression, 0)], []
    while todo:
        part, around = todo.pop()
        found.append((part, around))
        todo.extend([(below, around + 1) for below in inner_of(part)[::-1]])
    return found


def all_in(expression):
    """An expression and all that stand in it, at every depth, in their order."""
    return [part for part, around in with_depths(expression)]


def read_expression(text):
    """The expression with a text, None if there is none."""
    found = expression_at(text, 0, 0)
    if found is None or found[1] != len(text):
        return None
    deepest = max([around for part, around in with_depths(found[0])])
    return found[0] if deepest < MOST_DEEP else None


# Each function below whose name ends in _at reads what begins at a place of a text. It returns what it
# has read and the place behind it, or None if there is no such thing; `nested` is the number of brackets
# around this place.


def expression_at(text, at, nested):
    """Read an expression."""
    if text.startswith("if ", at):
        return choice_at(text, at, nested)
    found = sum_at(text, at, nested)
    if found is None:
        return None
    left, end = found
    sign = text[end:end + 1]
    if sign not in ("<", "="):
        return found
    found = sum_at(text, end + 1, nested)
    return None if found is None else ((HEADS[sign], left, found[0]), found[1])


def choice_at(text, at, nested):
    """Read an expression that begins with "if"."""
    parts = []
    for mark in ("if ", " then ", " else "):
        if not text.startswith(mark, at):
            return None
        found = expression_at(text, at + len(mark), nested)
        if found is None:
            return None
        part, at = found
        parts.append(part)
    return ("if", *parts), at


def sum_at(text, at, nested):
    """Read a sum."""
    return chain_at(text, at, nested, ("+", "-"), product_at)


def product_at(text, at, nested):
    """Read a product."""
    return chain_at(text, at, nested, ("*",), atom_at)


def chain_at(text, at, nested, signs, part_at):
    """Read parts with some signs between them."""
    found = part_at(text, at, nested)
    while found is not None:
        whole, end = found
        sign = text[end:end + 1]
        if sign not in signs:
            return found
        found = part_at(text, end + 1, nested)
        if found is not None:
            found = (HEADS[sign], whole, found[0]), found[1]
    return None


def atom_at(text, at, nested):
    """Read an expression that needs no brackets anywhere."""
    sign = text[at:at + 1]
    if sign == "(":
        found = args_at(text, at, nested)
        return None if found is None or len(found[0]) != 1 else (found[0][0], found[1])
    if sign == "#":
        found = variable_at(text, at, "#")
        return None if found is None else (("of", found[0]), found[1])
    if sign != "" and sign in DIGITS:
        found = number_at(text, at)
        return None if found is None else (("num", found[0]), found[1])
    return named_at(text, at, nested)


def word_at(text, at):
    """Read a word."""
    word = run_at(text, at, SMALL_LETTERS)
    return (word, at + len(word)) if is_word(word) else None


def named_at(text, at, nested):
    """Read a name, a constant of a use or a call."""
    found = word_at(text, at)
    if found is None:
        return None
    word, end = found
    use = use_at(text, end)
    if use is not None:
        terms, member, end = use
    if not text.startswith("(", end):
        return (("name", word) if use is None else ("const", word, terms, member)), end
    found = args_at(text, end, nested)
    if found is None:
        return None
    args, end = found
    return (("own", word, args) if use is None else ("call", word, terms, member, args)), end


def bracketed_terms_at(text, at):
    """Read terms, or nothing, between < and >."""
    if text.startswith("<>", at):
        return (), at + 2
    found = terms_at(text, at + 1) if text.startswith("<", at) else None
    if found is None or not text.startswith(">", found[1]):
        return None
    return found[0], found[1] + 1


def use_at(text, at):
    """Read the terms of a use and the word of a member behind them, with the place behind this."""
    found = bracketed_terms_at(text, at)
    if found is None or not text.startswith(".", found[1]):
        return None
    terms, end = found
    found = word_at(text, end + 1)
    return None if found is None else (terms, found[0], found[1])


def args_at(text, at, nested):
    """Read arguments, or nothing, in the brackets of which the first one stands at the place."""
    if nested == MOST_NESTED:
        return None
    if text.startswith("()", at):
        return (), at + 2
    args = []
    while True:
        # Here, the bracket or a comma stands at the place.
        found = expression_at(text, at + 1, nested + 1)
        if found is None:
            return None
        arg, at = found
        args.append(arg)
        if text.startswith(")", at):
            return tuple(args), at + 1
        if not text.startswith(",", at):
            return None


def write_expression(expression, strength):
    """The text of an expression at a place that takes expressions from a strength on."""
    text = plain_text(expression)
    return f"({text})" if STRENGTHS.get(expression[0], STRONG) < strength else text


def plain_text(expression):
    """The text of an expression without brackets around it."""
    head = expression[0]
    if head in SIGNS:
        left, right = SIDES[head]
        return write_expression(expression[1], left) + SIGNS[head] + write_expression(expression[2], right)
    if head == "if":
        test, one, other = [write_expression(part, WEAK) for part in expression[1:]]
        return f"if {test} then {one} else {other}"
    if head == "num":
        return str(expression[1])
    if head == "of":
        return "#" + expression[1]
    if head == "name":
        return expression[1]
    if head == "own":
        return expression[1] + args_text(expression[2])
    use = f"{expression[1]}<{write_terms(expression[2])}>.{expression[3]}"
    return use if head == "const" else use + args_text(expression[4])


def args_text(args):
    """The text of arguments in brackets."""
    inner = ",".join([write_expression(arg, WEAK) for arg in args])
    return f"({inner})"
