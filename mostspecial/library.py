"""Libraries: headers, and the views that units may have of them."""

from mostspecial.choices import use_text
from mostspecial.errors import InvalidLibrary
from mostspecial.matches import renamed
from mostspecial.places import definitions_in, shapes_of
from mostspecial.programs import Program


def is_view(value, words):
    """Whether a value is a tuple of different words of headers."""
    if not isinstance(value, tuple):
        return False
    if not all(isinstance(word, str) and word in words for word in value):
        return False
    return len(set(value)) == len(value)


class Library:
    """Headers and views of them.

    `sources` has what the headers tell, by their words; `reached` the words of all headers that each view has;
    `kept` what has been worked out of the library so far.
    """

    def __init__(self, headers, views):
        program = Program(headers, {})
        if program.wrong:
            raise InvalidLibrary("headers")
        if not isinstance(views, (list, tuple)) or not all(is_view(row, headers) for row in views):
            raise InvalidLibrary("views")
        self.texts = dict(headers)
        self.views = tuple(views)
        self.sources = program.sources
        self.generics = [row for word in program.headers for row in self.sources[word].generics]
        self.definitions = definitions_in(self.sources, program.headers)
        self.reached = [self.all_reached(row) for row in self.views]
        self.shapes = shapes_of(self.generics, self.definitions)
        self.kept = {}
        if not all(self.has_unlike_patterns(k) for k in range(len(self.views))):
            raise InvalidLibrary("twice")

    @property
    def headers(self):
        """The headers, by their words."""
        return dict(self.texts)

    def all_reached(self, words):
        """The words of the headers that some headers see, at once or through others, and their own."""
        found = {word: True for word in words}
        for word in words:
            found.update({other: True for other in self.sources[word].reached})
        return sorted(found)

    def definitions_of(self, k):
        """The definitions of a view."""
        words = self.reached[k]
        return [definition for definition in self.definitions if definition.mark[0] in words]

    def generics_of(self, k):
        """The tuples (word, kinds, inner) of a view."""
        return [row for word in self.reached[k] for row in self.sources[word].generics]

    def names_of(self, k):
        """The tuples (type name, count) of a view, ascending."""
        return sorted([row for word in self.reached[k] for row in self.sources[word].names])

    def has_unlike_patterns(self, k):
        """Whether no two definitions of one generic of a view have alike patterns."""
        texts = [use_text(row.generic, renamed(row.pattern)) for row in self.definitions_of(k)]
        return len(set(texts)) == len(texts)


def looked(library, generic):
    """The places of a generic that are looked at."""
    return list(library.shapes[generic].seen) if generic in library.shapes else []
