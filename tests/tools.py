"""What several tests need: terms by their texts, other ways to reckon, and many values."""

import itertools
import sys

from mostspecial.errors import ChoiceError, InvalidWord
from mostspecial.library import Library
from mostspecial.programs import Program
from mostspecial.terms import Names
from mostspecial.termtexts import read_terms

NAMES = Names([("A", 0), ("B", 1), ("P", 2), ("T", 3)])

# Values of all kinds that are no terms, patterns, uses, trees or the like.
ODD_VALUES = [
    None, True, False, -1, "", "x", "type", (), [], {}, ("type",), ("type", "A"), ("type", "A", []),
    ("type", "A", (), ()), ["type", "A", ()], ("var",), ("var", "T"), ("var", 3), ("var", "t", "t"), ("var", None),
    ("form", 0, "n", 0), ("form", 1, "n", -1), ("form", True, "n", 0), ("form", 1, "n", False), ("form", 1, "n"),
    ("form", 1, ("var", "n"), 0), ("list", [], None), ("list", (), "R"), ("list", (), False), ("list", ()),
    ("list", (3,), None), ("list", (("list", (), None),), None), ("type", "A", None), ("type", "a", ()),
    ("type", ("A",), ()), ("type", "B", (3,)), ("type", "B", ([],)), ("type", "B", ()), ("type", "A", (("var", "t"),)),
    ("type", None, ()), ("num", 3), (("type", "A", ()), ("type", "B", (None,))), {"type": "A"}, [["type"], {"a": ()}],
    NAMES, InvalidWord("x"), ((((((((),),),),),),),), ("in", 0), ("in", True),
    ("name", "t"), ("kind", "A", ()), ("lists", (), None), ("lists", (("type", "A", ()),), "r"), ("forms", 1, "n", 0),
]


BASE_NAMES = "name A 0\nname B 1\nname P 2"


def library(*rows, views=(("base",),), **others):
    """A library of a header base with some lines behind its names, and of further headers that see it."""
    headers = {"base": "\n".join([BASE_NAMES, *rows])}
    headers.update({word: "see base\n" + others[word] for word in others})
    return Library(headers, views)


def program(*rows, **units):
    """A program of such a header base, and of units that see it."""
    return Program({"base": "\n".join([BASE_NAMES, *rows])}, {word: "see base\n" + units[word] for word in units})


def terms(text, kinds, names=NAMES):
    """The terms with a text; the kinds are written with blanks between."""
    return read_terms(text, tuple(kinds.split()), names)


def type_of(name, *args):
    """A type."""
    return ("type", name, args)


def deep(levels, inside=("type", "A", ())):
    """A type B<B<..>>, as many levels deeper than what is inside."""
    for _ in range(levels):
        inside = ("type", "B", (inside,))
    return inside


def wide(signs):
    """A list with as many signs."""
    return ("list", (("type", "A", ()),) * signs, None)


def raised(function, *args, **named):
    """The error of the package that a call raises."""
    try:
        value = function(*args, **named)
    except ChoiceError as error:
        return error
    raise AssertionError(f"no error, but {value!r}")


def told(error):
    """The name of an error's class and its attributes."""
    return (type(error).__name__, *vars(error).values())


class NarrowStack:
    """Few nested calls are allowed within a `with` of this."""

    def __init__(self, room=120):
        self.room = room

    def __enter__(self):
        frame, used = sys._getframe(), 0
        while frame is not None:
            frame, used = frame.f_back, used + 1
        self.before = sys.getrecursionlimit()
        sys.setrecursionlimit(used + self.room)

    def __exit__(self, *_):
        sys.setrecursionlimit(self.before)


def types_up_to(depth):
    """All types of A, Zed and B, and some of P, up to a depth."""
    found = [type_of("A"), type_of("Zed")]
    for _ in range(depth - 1):
        more = [type_of("B", one) for one in found]
        more.extend(type_of("P", one, other) for one, other in itertools.product(found[:4], repeat=2))
        found = list(dict.fromkeys(found + more))
    return found


def takes(pattern, use):
    """Whether a pattern takes a use, reckoned by trying everything in a plain way."""
    return _bindings(list(zip(pattern, use)), {}) if len(pattern) == len(use) else False


def _bindings(pairs, bound):
    for pattern, term in pairs:
        if isinstance(pattern, int) or isinstance(term, int):
            if isinstance(pattern, int) and pattern == term:
                continue
            if isinstance(pattern, int) or not isinstance(term, int) or pattern[0] != "form":
                return False
            found = [n for n in range(term + 1) if pattern[1] * n + pattern[3] == term]
            if not found or bound.setdefault(pattern[2], found[0]) != found[0]:
                return False
        elif pattern[0] == "var":
            if term[0] != "type" or bound.setdefault(pattern[1], term) != term:
                return False
        elif pattern[0] == "type":
            if term[:2] != pattern[:2] or len(term[2]) != len(pattern[2]):
                return False
            if not _bindings(list(zip(pattern[2], term[2])), bound):
                return False
        elif pattern[0] == "list":
            many = len(pattern[1])
            if term[0] != "list" or many > len(term[1]) or pattern[2] is None and many < len(term[1]):
                return False
            if not _bindings(list(zip(pattern[1], term[1])), bound):
                return False
            behind = term[1][many:]
            if pattern[2] is not None and bound.setdefault(pattern[2], behind) != behind:
                return False
        else:
            return False
    return True


def random_type(chance, depth, variables):
    """A type by a source of chance."""
    kind = chance.random()
    if depth == 1 or kind < 0.45:
        return ("var", chance.choice(variables)) if chance.random() < 0.7 else type_of("A")
    if kind < 0.75:
        return type_of("B", random_type(chance, depth - 1, variables))
    return type_of("P", *[random_type(chance, depth - 1, variables) for _ in range(2)])


def random_term(chance, kind):
    """A term of a kind by a source of chance."""
    if kind == "type":
        return random_type(chance, 3, ["a", "b"])
    if kind == "num":
        if chance.random() < 0.3:
            return chance.randrange(5)
        return ("form", chance.choice([1, 1, 2, 3, 4, 6]), chance.choice(["m", "n", "o"]), chance.randrange(6))
    items = tuple(random_type(chance, 2, ["a", "b"]) for _ in range(chance.randrange(3)))
    return ("list", items, chance.choice(["r", "s", None, "r"]))


def random_pattern(chance, kinds):
    """A pattern by a source of chance."""
    return tuple(random_term(chance, kind) for kind in kinds)


def random_use(chance, kinds):
    """A use by a source of chance."""
    found = []
    for kind in kinds:
        if kind == "type":
            found.append(chance.choice(SOME_TYPES))
        elif kind == "num":
            found.append(chance.randrange(30))
        else:
            items = [chance.choice(SOME_TYPES[:5]) for _ in range(chance.randrange(4))]
            found.append(("list", tuple(items), None))
    return tuple(found)


SOME_TYPES = types_up_to(3)
