"""Plain reading: the values of all prints of a program."""

from mostspecial.choices import check_most, check_program, choices_in
from mostspecial.machine import Meter
from mostspecial.programs import prints_in
from mostspecial.reading import Reader


def plain(program, most):
    """The values of all prints, with at most so many functions called and constants reckoned."""
    check_program(program)
    check_most(most)
    meter = Meter(most)
    found = []
    for word in program.units:
        reader = Reader(choices_in(program, word), meter)
        found.extend([reader.value(expression) for expression in prints_in(program, word)])
    return found
