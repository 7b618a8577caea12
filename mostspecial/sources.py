"""What the texts of a program tell, and which headers they see."""

from mostspecial.expressions import all_in
from mostspecial.texts import definitions_of, told_by


class Source:
    """What one text tells; `reached` has the words of all headers that it sees, at once or through others."""

    def __init__(self, word, lines):
        self.word = word
        self.lines = tuple(lines)
        self.sees = [row[0] for row in told_by(lines, "see")]
        self.names = told_by(lines, "name")
        self.generics = told_by(lines, "gen")
        self.definitions = definitions_of(lines)
        self.prints = [row[0] for row in told_by(lines, "print")]
        self.reached = []

    def reach(self, sources, headers):
        """Find all headers that the text sees, at once or through others."""
        found, todo = {}, list(self.sees)
        while todo:
            word = todo.pop()
            if word in headers and word not in found:
                found[word] = True
                todo.extend(sources[word].sees)
        self.reached = sorted(found)


def expression_of(line):
    """The expression that stands in a line, None if there is none."""
    return line[-1] if line[0] in ("const", "fun", "print") else None


def uses_in(line):
    """The tuples (generic, terms) of the pattern or the inner uses that stand in a line."""
    if line[0] == "for":
        return [line[1:]]
    expression = expression_of(line)
    if expression is None:
        return []
    return [part[1:3] for part in all_in(expression) if part[0] in ("const", "call")]


def numbers_in(line):
    """The variables of the kind num that stand in the expression of a line, but in no use."""
    expression = expression_of(line)
    return [] if expression is None else [part[1] for part in all_in(expression) if part[0] == "of"]
