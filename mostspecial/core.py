"""What units become: functions and prints without generics."""

from mostspecial.books import book_of
from mostspecial.choices import check_program, choices_in, use_text, uses_of
from mostspecial.early import values_of
from mostspecial.errors import InvalidWord, Lacks
from mostspecial.instances import instances, roots
from mostspecial.matches import put_in_all
from mostspecial.programs import prints_in

MOST_RECKONED = 1000


class Maker:
    """What turns expressions into core expressions, by the values of the constants of all uses that are made."""

    def __init__(self, choices):
        self.choices = choices
        self.worth = {}

    def reckon(self, generic, terms):
        """Take the values of the constants of a use."""
        self.worth[use_text(generic, terms)] = values_of(self.choices, generic, terms, MOST_RECKONED)

    def turned(self, expression, chosen, parameters):
        """The core expression of an expression that stands in a function of a use's choice, or in a print."""
        head = expression[0]
        if head == "num" or head == "name" and expression[1] in parameters:
            return expression
        if head == "of":
            return "num", chosen.binding[expression[1]]
        if head == "name":
            return "num", self.worth[chosen.text][expression[1]]
        if head == "const":
            return "num", self.worth[self.text_in(expression, chosen)][expression[3]]
        if head in ("own", "call"):
            args = tuple([self.turned(arg, chosen, parameters) for arg in expression[-1]])
            return "call", self.name_of(expression, chosen), args
        return (head, *[self.turned(part, chosen, parameters) for part in expression[1:]])

    def text_in(self, expression, chosen):
        """The text of the use that an expression asks."""
        _, generic, terms, _ = expression[:4]
        return use_text(generic, put_in_all(terms, {} if chosen is None else chosen.binding))

    def name_of(self, expression, chosen):
        """The name of the function that a call is of."""
        if expression[0] == "own":
            return function_name(chosen.text, expression[1])
        return function_name(self.text_in(expression, chosen), expression[3])


def function_name(text, word):
    """The name of a function, by the text of its use and its word."""
    return f"{text}.{word}"


def made(program, word, most):
    """What a unit becomes: its functions by their names, its prints, and its book."""
    check_program(program)
    if not isinstance(word, str) or word not in program.units:
        raise InvalidWord(word)
    rows = instances(program, word, roots(program, word), most)
    told = book_of(program, rows)
    choices, prints = choices_in(program, word), prints_in(program, word)
    for generic, terms, member, many in uses_of(prints):
        if not choices.choice(generic, terms).has(member, many):
            raise Lacks(generic, terms, member, many)
    maker = Maker(choices)
    for generic, terms, _ in rows:
        maker.reckon(generic, terms)
    functions = {}
    for generic, terms, _ in rows:
        chosen = choices.choice(generic, terms)
        for (member, _), (parameters, body) in chosen.functions.items():
            functions[function_name(chosen.text, member)] = (parameters, maker.turned(body, chosen, parameters))
    return functions, [maker.turned(expression, None, ()) for expression in prints], told
