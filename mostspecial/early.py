"""Constants early: the values of the constants of a use."""

from mostspecial.choices import check_most, choices_in
from mostspecial.machine import Meter
from mostspecial.reading import Reader


def constants(program, word, generic, terms, most):
    """The values of the constants of a use's choice in the view of a text, by their words."""
    choices = choices_in(program, word)
    choices.check_use(generic, terms)
    check_most(most)
    return values_of(choices, generic, terms, most)


def values_of(choices, generic, terms, most):
    """The values of the constants of a use's choice, with at most so many constants reckoned."""
    chosen = choices.choice(generic, terms)
    reader = Reader(choices, Meter(most))
    return {word: reader.value(("const", generic, terms, word)) for word in chosen.constants}
