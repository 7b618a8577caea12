"""Programs: headers and units, their faults, and what each of them has in its view."""

from mostspecial.errors import InvalidLine, InvalidProgram, InvalidWord
from mostspecial.layers import first_faults
from mostspecial.sources import Source
from mostspecial.terms import is_word
from mostspecial.texts import read_lines


class Program:
    """Headers and units that have been read; `sources` has what they tell, by their words."""

    def __init__(self, headers, units):
        for word in sorted([*headers, *units]):
            if not is_word(word) or word in headers and word in units:
                raise InvalidWord(word)
        self.header_words = tuple(sorted(headers))
        self.units = tuple(sorted(units))
        self.sources = {}
        for texts in (headers, units):
            for word in sorted(texts):
                lines, wrong = read_lines(texts[word])
                if wrong:
                    raise InvalidLine((word, wrong))
                self.sources[word] = Source(word, lines)
        self.wrong = tuple(first_faults(self.sources, self.header_words))

    @property
    def headers(self):
        """The words of the headers, ascending."""
        return self.header_words


def faults(program):
    """The faults of the first layer in which a text of the program has one, ascending."""
    return list(program.wrong)


def source_of(program, word):
    """What the text of a word tells; it raises what `view` raises."""
    if program.wrong:
        raise InvalidProgram(faults(program))
    if not isinstance(word, str) or word not in program.sources:
        raise InvalidWord(word)
    return program.sources[word]


def view(program, word):
    """The names, generics and definitions of the view of a text."""
    source = source_of(program, word)
    rows = [program.sources[other] for other in sorted([word, *source.reached])]
    names = sorted([name for row in rows for name in row.names])
    generics = sorted([generic for row in rows for generic in row.generics])
    definitions = []
    for row in rows:
        for k, (_, generic, pattern, members) in enumerate(row.definitions):
            definitions.append(((row.word, k), generic, pattern, members))
    return names, generics, definitions


def prints_in(program, word):
    """The expressions that a text prints, in their order."""
    return list(source_of(program, word).prints)
