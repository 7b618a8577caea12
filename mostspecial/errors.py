"""The errors of the package: each keeps the very objects that it is made with."""


class ChoiceError(ValueError):
    """The error that all errors of this package are."""


class InvalidNames(ChoiceError):
    """What is given is no list of type names with their counts."""

    def __init__(self, given):
        self.given = given


class InvalidKind(ChoiceError):
    """What is given is no kind of a term."""

    def __init__(self, given):
        self.given = given


class InvalidKinds(ChoiceError):
    """What is given is no list of kinds of places."""

    def __init__(self, given):
        self.given = given


class InvalidText(ChoiceError):
    """What is given is the text of no such term, or of no such terms."""

    def __init__(self, given):
        self.given = given


class InvalidBinding(ChoiceError):
    """The given variable is bound to no term of its kind."""

    def __init__(self, given):
        self.given = given


class InvalidPatterns(ChoiceError):
    """What is given is no list of patterns for a table."""

    def __init__(self, given):
        self.given = given


class InvalidUse(ChoiceError):
    """What is given is no use."""

    def __init__(self, given):
        self.given = given


class InvalidLine(ChoiceError):
    """The line with the given number cannot be read."""

    def __init__(self, given):
        self.given = given


class InvalidWord(ChoiceError):
    """What is given is no word, or the word of no text."""

    def __init__(self, given):
        self.given = given


class InvalidProgram(ChoiceError):
    """The program has the given faults."""

    def __init__(self, given):
        self.given = given


class InvalidRoots(ChoiceError):
    """What is given is no list of uses to begin with."""

    def __init__(self, given):
        self.given = given


class InvalidMost(ChoiceError):
    """What is given is no number from 0 to 1000."""

    def __init__(self, given):
        self.given = given


class InvalidLibrary(ChoiceError):
    """The given part of a library is wrong."""

    def __init__(self, given):
        self.given = given


class InvalidView(ChoiceError):
    """What is given is no index of a view."""

    def __init__(self, given):
        self.given = given


class InvalidSort(ChoiceError):
    """What is given is no sort of a use."""

    def __init__(self, given):
        self.given = given


class InvalidLinked(ChoiceError):
    """What is given is no linked program."""

    def __init__(self, given):
        self.given = given


class InvalidPairs(ChoiceError):
    """What is given is no list of pairs of strings."""

    def __init__(self, given):
        self.given = given


class InvalidRow(ChoiceError):
    """What is given is no list of indices of pairs."""

    def __init__(self, given):
        self.given = given


class InvalidRows(ChoiceError):
    """What is given is no list of rows of a machine."""

    def __init__(self, given):
        self.given = given


class InvalidRule(ChoiceError):
    """What is given is no rule for a machine's library."""

    def __init__(self, given):
        self.given = given


class InvalidTerm(ChoiceError):
    """What is given is no closed term of the kind that is asked for."""

    def __init__(self, given):
        self.given = given


class NotCovered(ChoiceError):
    """A use that the pattern takes is taken by no pattern of the list."""

    def __init__(self, use):
        self.use = use


class NoTaker(ChoiceError):
    """No pattern of the table takes the use."""

    def __init__(self, use):
        self.use = use


class TwoLeast(ChoiceError):
    """Some patterns of the table take the use, but it has no choice."""

    def __init__(self, use):
        self.use = use


class HasTwo(ChoiceError):
    """The table has a use that some patterns take and that has no choice."""

    def __init__(self, use):
        self.use = use


class NoChoice(ChoiceError):
    """No definition takes the use."""

    def __init__(self, generic, terms):
        self.generic = generic
        self.terms = terms


class TwoChoices(ChoiceError):
    """Some definitions take the use, but it has no choice."""

    def __init__(self, generic, terms):
        self.generic = generic
        self.terms = terms


class Lacks(ChoiceError):
    """The choice of the use lacks the member that it is asked for."""

    def __init__(self, generic, terms, word, many):
        self.generic = generic
        self.terms = terms
        self.word = word
        self.many = many


class RingOfConstants(ChoiceError):
    """A constant is asked for while it is being reckoned."""

    def __init__(self, generic, terms, word):
        self.generic = generic
        self.terms = terms
        self.word = word


class TooGreat(ChoiceError):
    """A value or a use is too great."""


class TooFar(ChoiceError):
    """More functions and constants are needed than the most that may be."""

    def __init__(self, most):
        self.most = most


class TooMany(ChoiceError):
    """There are more uses than the most that may be."""

    def __init__(self, most):
        self.most = most


class NotApart(ChoiceError):
    """The library does not take apart."""

    def __init__(self, generic, what):
        self.generic = generic
        self.what = what


class NoTerm(ChoiceError):
    """No term has the sight."""

    def __init__(self, sight):
        self.sight = sight


class NotMet(ChoiceError):
    """The use is not met."""

    def __init__(self, generic, terms):
        self.generic = generic
        self.terms = terms


class TooLong(ChoiceError):
    """What is asked for lies too many asks away."""

    def __init__(self, asks):
        self.asks = asks


class Dead(ChoiceError):
    """The definition is the choice of no use that is met."""

    def __init__(self, mark):
        self.mark = mark


class AsksTwo(ChoiceError):
    """The definition asks two unlike inner uses."""

    def __init__(self, mark):
        self.mark = mark


class Unlike(ChoiceError):
    """Two choices are unlike where the same counts."""

    def __init__(self, text):
        self.text = text
