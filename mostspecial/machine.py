"""Reading expressions without generics: their values, with what is left to do in a list."""

from mostspecial.errors import TooFar, TooGreat

GREATEST_VALUE = 1000000000000000000000000000000
MOST_CALLS_DEEP = 25
SIGNS = ("add", "sub", "mul", "less", "same")


def is_value(number):
    """Whether an integer is one that expressions may have as their value."""
    return -GREATEST_VALUE <= number <= GREATEST_VALUE


def joined(head, left, right):
    """The value of an expression with two sides, by the values of these."""
    if head == "add":
        return left + right
    if head == "sub":
        return left - right
    if head == "mul":
        return left * right
    if head == "less":
        return 1 if left < right else 0
    return 1 if left == right else 0


class Meter:
    """How many functions have been called and constants reckoned, and how many may be."""

    def __init__(self, most):
        self.most = most
        self.many = 0

    def tick(self, deep):
        """One more, so deep."""
        if self.many >= self.most or deep > MOST_CALLS_DEEP:
            raise TooFar(self.most)
        self.many += 1


class Scene:
    """Where an expression is read: the use whose member it is, or None, the parameters' values, and how deep."""

    def __init__(self, chosen, named, deep):
        self.chosen = chosen
        self.named = named
        self.deep = deep


class Machine:
    """What reads core expressions by functions, which it has by their names.

    What is left to do waits in `todo`, the next thing last, and the values that it will need in `worths`: so
    calls that lie deep are no nested calls here.
    """

    def __init__(self, functions, meter):
        self.called = functions
        self.meter = meter
        self.todo = []
        self.worths = []

    def value(self, expression):
        """The value of an expression that a print may be."""
        self.todo.append(("read", expression, Scene(None, {}, 0)))
        while self.todo:
            head, what, scene = self.todo.pop()
            if head == "read":
                self.read(what, scene)
            elif head == "join":
                right, left = self.worths.pop(), self.worths.pop()
                self.push(joined(what, left, right))
            elif head == "pick":
                side = what[3] if self.worths.pop() == 0 else what[2]
                self.todo.append(("read", side, scene))
            else:
                self.call(what, self.args_of(what), scene)
        return self.worths.pop()

    def push(self, value):
        """Note the value of an expression."""
        if not is_value(value):
            raise TooGreat()
        self.worths.append(value)

    def read(self, expression, scene):
        """Read an expression, or note what must be read first."""
        head = expression[0]
        if head == "num":
            self.push(expression[1])
        elif head == "if":
            self.todo.append(("pick", expression, scene))
            self.todo.append(("read", expression[1], scene))
        elif head in SIGNS:
            self.todo.append(("join", head, scene))
            self.todo.append(("read", expression[2], scene))
            self.todo.append(("read", expression[1], scene))
        elif head in ("own", "call"):
            self.todo.append(("call", expression, scene))
            self.todo.extend([("read", arg, scene) for arg in expression[-1][::-1]])
        else:
            self.read_other(expression, scene)

    def read_other(self, expression, scene):
        """Read a name, which is that of a parameter."""
        self.push(scene.named[expression[1]])

    def args_of(self, expression):
        """Take the values of the arguments of a call, which have been read."""
        first = len(self.worths) - len(expression[-1])
        args = self.worths[first:]
        del self.worths[first:]
        return args

    def call(self, expression, args, scene):
        """Call a function."""
        self.enter(self.called[expression[1]], args, Scene(None, {}, scene.deep))

    def enter(self, function, args, scene):
        """Note that a function of a scene must be read, with the values of its parameters, one deeper than this."""
        self.meter.tick(scene.deep + 1)
        parameters, body = function
        self.todo.append(("read", body, Scene(scene.chosen, dict(zip(parameters, args)), scene.deep + 1)))
