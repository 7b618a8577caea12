"""Reading expressions: their values, by what they ask in a view."""

from mostspecial.errors import Lacks, RingOfConstants, TooFar, TooGreat
from mostspecial.matches import put_in_all

GREATEST_VALUE = 1000000000000000000000000000000
MOST_CALLS_DEEP = 25


def joined(head, left, right):
    """The value of an expression with two sides, by the values of these."""
    if head == "add":
        return left + right
    if head == "sub":
        return left - right
    if head == "mul":
        return left * right
    if head == "less":
        return 1 if left < right else 0
    return 1 if left == right else 0


class Meter:
    """How many functions have been called and constants reckoned, and how many may be."""

    def __init__(self, most):
        self.most = most
        self.many = 0

    def tick(self, deep):
        """One more, so deep."""
        if self.many >= self.most or deep > MOST_CALLS_DEEP:
            raise TooFar(self.most)
        self.many += 1


class Scene:
    """Where an expression is read: the use whose member it is, or None, the parameters' values, and how deep."""

    def __init__(self, chosen, named, deep):
        self.chosen = chosen
        self.named = named
        self.deep = deep


class Reader:
    """What reads expressions in one view, with the values of constants that are kept.

    What is left to do waits in `todo`, the next thing last, and the values that it will need in `worths`: so
    calls that lie deep are no nested calls here.
    """

    def __init__(self, choices, meter):
        self.choices = choices
        self.meter = meter
        self.kept = {}
        self.begun = {}
        self.todo = []
        self.worths = []

    def value(self, expression):
        """The value of an expression that a print may be."""
        self.todo.append(("read", expression, Scene(None, {}, 0)))
        while self.todo:
            head, what, scene = self.todo.pop()
            if head == "read":
                self.read(what, scene)
            elif head == "join":
                right, left = self.worths.pop(), self.worths.pop()
                self.push(joined(what, left, right))
            elif head == "pick":
                side = what[3] if self.worths.pop() == 0 else what[2]
                self.todo.append(("read", side, scene))
            elif head == "call":
                self.call(what, scene)
            else:
                self.kept[what] = self.worths[-1]
                del self.begun[what]
        return self.worths.pop()

    def push(self, value):
        """Note the value of an expression."""
        if not -GREATEST_VALUE <= value <= GREATEST_VALUE:
            raise TooGreat()
        self.worths.append(value)

    def read(self, expression, scene):
        """Read an expression, or note what must be read first."""
        head = expression[0]
        if head == "num":
            self.push(expression[1])
        elif head == "of":
            self.push(scene.chosen.binding[expression[1]])
        elif head == "name":
            self.read_name(expression[1], scene)
        elif head == "const":
            chosen = self.ask(expression, scene, -1)
            self.reckon(chosen, expression[3], scene.deep)
        elif head in ("own", "call"):
            self.todo.append(("call", expression, scene))
            self.todo.extend([("read", arg, scene) for arg in expression[-1][::-1]])
        elif head == "if":
            self.todo.append(("pick", expression, scene))
            self.todo.append(("read", expression[1], scene))
        else:
            self.todo.append(("join", head, scene))
            self.todo.append(("read", expression[2], scene))
            self.todo.append(("read", expression[1], scene))

    def read_name(self, word, scene):
        """Read a parameter, or a constant of the same definition."""
        if word in scene.named:
            self.push(scene.named[word])
        else:
            self.reckon(scene.chosen, word, scene.deep)

    def ask(self, expression, scene, many):
        """The choice of the use that stands in an expression, which has the member that is asked for."""
        _, generic, terms, word = expression[:4]
        if scene.chosen is not None:
            terms = put_in_all(terms, scene.chosen.binding)
        self.choices.check_size(generic, terms)
        chosen = self.choices.choice(generic, terms)
        if not chosen.has(word, many):
            raise Lacks(generic, terms, word, many)
        return chosen

    def reckon(self, chosen, word, deep):
        """Take the value of a constant that is asked for so deep, or note that it must be reckoned."""
        key = (chosen.text, word)
        if key in self.kept:
            self.push(self.kept[key])
            return
        if key in self.begun:
            raise RingOfConstants(chosen.generic, chosen.terms, word)
        self.meter.tick(deep + 1)
        self.begun[key] = True
        self.todo.append(("keep", key, None))
        self.todo.append(("read", chosen.constants[word], Scene(chosen, {}, deep + 1)))

    def call(self, expression, scene):
        """Call a function whose arguments have been read."""
        many = len(expression[-1])
        first = len(self.worths) - many
        args = self.worths[first:]
        del self.worths[first:]
        if expression[0] == "own":
            chosen, word = scene.chosen, expression[1]
        else:
            chosen, word = self.ask(expression, scene, many), expression[3]
        self.meter.tick(scene.deep + 1)
        parameters, body = chosen.functions[(word, many)]
        self.todo.append(("read", body, Scene(chosen, dict(zip(parameters, args)), scene.deep + 1)))
