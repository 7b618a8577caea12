"""Linked programs: made from what units become, and run."""

from mostspecial.choices import check_most
from mostspecial.errors import InvalidLinked, Unlike
from mostspecial.machine import SIGNS, Machine, Meter, is_value
from mostspecial.terms import is_whole, is_word

MOST_DEEP = 8


def link(parts):
    """The functions and the prints of all parts."""
    told, wrong = {}, {}
    for _, _, book in parts:
        for text, mark in book.items():
            if told.setdefault(text, mark) != mark:
                wrong[text] = True
    if wrong:
        raise Unlike(min(wrong))
    functions, found = {}, []
    for own, prints, _ in parts:
        functions.update(own)
        found.extend(prints)
    return functions, found


def is_linked(value):
    """Whether a value is a linked program."""
    if not isinstance(value, tuple) or len(value) != 2:
        return False
    functions, prints = value
    if not isinstance(functions, dict) or not isinstance(prints, (list, tuple)):
        return False
    if not all([isinstance(name, str) and is_headed(functions[name]) for name in functions]):
        return False
    many = {name: len(functions[name][0]) for name in functions}
    if not all([is_core(body, parameters, many) for parameters, body in functions.values()]):
        return False
    return all([is_core(expression, (), many) for expression in prints])


def is_headed(value):
    """Whether a value is a tuple of parameters and of something else."""
    if not isinstance(value, tuple) or len(value) != 2 or not isinstance(value[0], tuple):
        return False
    return all([is_word(word) for word in value[0]]) and len(set(value[0])) == len(value[0])


def is_core(value, names, many):
    """Whether a value is a core expression with some names; `many` has the numbers of parameters of functions."""
    todo = [(value, 1)]
    while todo:
        part, deep = todo.pop()
        inner = parts_in(part, names, many) if deep <= MOST_DEEP else None
        if inner is None:
            return False
        todo.extend([(below, deep + 1) for below in inner])
    return True


def parts_in(value, names, many):
    """What must be core expressions in a value for it to be one; None if it never is."""
    if not isinstance(value, tuple) or not value or not isinstance(value[0], str):
        return None
    head, size = value[0], len(value)
    if head == "num":
        return () if size == 2 and is_whole(value[1]) and is_value(value[1]) else None
    if head == "name":
        return () if size == 2 and isinstance(value[1], str) and value[1] in names else None
    if head in SIGNS:
        return value[1:] if size == 3 else None
    if head == "if":
        return value[1:] if size == 4 else None
    if head != "call" or size != 3 or not isinstance(value[1], str) or value[1] not in many:
        return None
    return value[2] if isinstance(value[2], tuple) and len(value[2]) == many[value[1]] else None


def run(linked, most):
    """The values of the prints of a linked program, with at most so many functions called."""
    if not is_linked(linked):
        raise InvalidLinked(linked)
    check_most(most)
    functions, prints = linked
    machine = Machine(functions, Meter(most))
    return [machine.value(expression) for expression in prints]
