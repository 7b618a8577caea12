"""Constants early: the values of the constants of a use."""

from mostspecial.choices import check_most, choices_in
from mostspecial.reading import Meter, Reader


def constants(program, word, generic, terms, most):
    """The values of the constants of a use's choice in the view of a text, by their words."""
    choices = choices_in(program, word)
    choices.check_use(generic, terms)
    check_most(most)
    chosen = choices.choice(generic, terms)
    reader = Reader(choices, Meter(most))
    return {name: reader.value(("const", generic, terms, name)) for name in chosen.constants}
