"""Points [202] and [203]: linked programs, and running them."""

import random
import unittest

from mostspecial.core import made
from mostspecial.errors import ChoiceError, TooFar
from mostspecial.link import is_linked, link, run
from mostspecial.plain import plain
from mostspecial.programs import Program
from tests.changes import with_one_replaced
from tests.tools import BASE_NAMES, NarrowStack, ODD_VALUES, deep, program, raised, told

GREATEST = 10 ** 30


def num(number):
    return ("num", number)


def name(word):
    return ("name", word)


X, ONE = name("x"), num(1)


class TestLink(unittest.TestCase):
    ROWS = ("gen f<num>", "for f<0>", "  const v = 1", "  fun go(x) = x", "for f<#n+1>", "  const v = 2*f<#n>.v", "  fun go(x) = f<#n>.go(x+v)")

    def test_parts(self):
        given = program(*self.ROWS, main="print f<2>.go(1)\nprint 5", more="print f<1>.go(2)+f<3>.v", other="name Own 0")
        parts = {word: made(given, word, 9) for word in given.units}
        self.assertEqual(({}, []), link(parts=[]))
        self.assertEqual(parts["main"][:2], link([parts["main"]]))
        for order in [["main", "more", "other"], ["more", "main"], ["other", "more", "main", "more"], ["main", "main"]]:
            functions, prints = link([parts[word] for word in order])
            self.assertEqual({key: parts[word][0][key] for word in order for key in parts[word][0]}, functions)
            self.assertEqual([row for word in order for row in parts[word][1]], prints)
            self.assertTrue(is_linked((functions, prints)))
            self.assertEqual((functions, prints), link(tuple(parts[word] for word in order)))
        before = repr(parts)
        found = link([parts["main"]])
        found[0].clear()
        found[1].clear()
        self.assertEqual(before, repr(parts))

    def test_functions_of_one_name(self):
        given = program("gen f<type,type>", "for f<?t,?c>", "  fun go(x) = x", main="print f<A,A>.go(1)", more="print f<A,B<A>>.go(2)+f<A,A>.go(2)")
        found = link([made(given, word, 9) for word in ("main", "more")])
        self.assertEqual(["f<A,A>.go", "f<A,B<A>>.go"], sorted(found[0]))

    def test_unlike(self):
        given = program(*self.ROWS, main="print f<2>.go(1)", own="for f<1>\n  fun go(x) = 7\n  const v = 3\nprint f<2>.go(1)", other="for f<2>\n  const v = 3\nprint f<2>.v")
        parts = {word: made(given, word, 9) for word in given.units}
        self.assertEqual(("Unlike", "f<1>"), told(raised(link, [parts["main"], parts["own"]])))
        self.assertEqual(("Unlike", "f<1>"), told(raised(link, [parts["own"], parts["main"], parts["other"]])))
        self.assertEqual(("Unlike", "f<2>"), told(raised(link, [parts["main"], parts["other"], parts["main"]])))
        self.assertEqual(("Unlike", "f<2>"), told(raised(link, [parts["own"], parts["other"]])))

    def test_unlike_of_what_counts_alone(self):
        given = program("gen f<type,type>", "for f<B<?t>,?c>", "  fun go(x) = x", "for f<?t,?c>", "  fun go(x) = x", main="print f<A,A>.go(1)", more="for f<A,?c>\n  fun go(x) = 1\nprint f<A,B<A>>.go(2)")
        self.assertEqual(("Unlike", "f<A>"), told(raised(link, [made(given, word, 9) for word in ("main", "more")])))
        self.assertEqual(2, len(link([made(given, "main", 9)])[0]) + len(link([made(given, "more", 9)])[0]))


def all_shapes():
    """A linked program with every form of core expressions."""
    body = ("if", ("less", X, num(-3)), ("add", ("sub", X, ONE), ("mul", X, num(2))), ("same", ("call", "g", (X, ("call", "k", ()))), name("y")))
    return {"f": (("x", "y"), body), "g": (("a", "b"), ("add", name("a"), name("b"))), "k": ((), num(GREATEST))}, [("call", "f", (ONE, num(-GREATEST))), num(0), ("add", ONE, ("call", "k", ()))]


def nested(levels, inside=ONE):
    """An expression so many levels deeper than what is inside."""
    for _ in range(levels):
        inside = ("add", ONE, inside)
    return inside


class TestIsLinked(unittest.TestCase):
    def good(self, value):
        self.assertIs(True, is_linked(value=value), value)

    def wrong(self, value):
        self.assertIs(False, is_linked(value), value)

    def test_right_ones(self):
        self.good(({}, []))
        self.good(all_shapes())
        self.good((all_shapes()[0], tuple(all_shapes()[1])))
        self.good(({"": ((), ONE), "no name at all": (("x", "seen"), X)}, []))

    def test_values_of_all_kinds(self):
        for value in [*[row for row in ODD_VALUES if row != ("num", 3)], ({},), ({}, [], {}), [{}, []], ([], []), ({}, {}), ({}, None), (None, [])]:
            self.wrong(value)
            self.wrong(({}, [value]))
            self.wrong(({"f": value}, []))
            self.wrong(({"f": ((), value)}, []))
            self.wrong(({"f": (("x",), ("add", X, value))}, []))
            if not isinstance(value, tuple):
                self.wrong(({}, value) if not isinstance(value, list) or value else (value, []))
                self.wrong(({"f": (value, ONE)}, []))
                self.wrong(({"f": (("x",), ("call", "f", value))}, []))

    def test_one_thing_changed(self):
        def news(value):
            if isinstance(value, tuple):
                yield list(value)
                yield value[:-1] if len(value) != 1 else (*value, *value)
                yield (*value, None)
            elif isinstance(value, str):
                yield from [None, value.upper(), value + " ", "none", 3]
            elif isinstance(value, int):
                yield from [True, None, str(value), value + 3 * GREATEST, value - 3 * GREATEST]
            elif isinstance(value, dict):
                yield list(value.items())
            else:
                yield {}
        functions, prints = all_shapes()
        many = 0
        for key in functions:
            for row in with_one_replaced(functions[key], news):
                many += 1
                if repr(row) != repr(functions[key]):
                    self.wrong(({**functions, key: row}, prints))
        for at, expression in enumerate(prints):
            for row in with_one_replaced(expression, news):
                many += 1
                if repr(row) != repr(expression):
                    self.wrong((functions, [*prints[:at], row, *prints[at + 1:]]))
        self.assertGreater(many, 200)
        for key in functions:
            self.wrong(({word: functions[word] for word in functions if word != key}, prints))
        self.good(({**functions, "more": ((), num(2))}, prints[:1]))

    def test_keys(self):
        for key in [3, None, True, (), ("f",), b"f"]:
            self.wrong(({key: ((), ONE)}, []))

    def test_parameters(self):
        for words, good in [((), True), (("x",), True), (("x", "y", "abcdefgh"), True), (("x", "x"), False), (("if",), False), (("X",), False), (("",), False), (("x", 3), False), (("abcdefghi",), False), (["x"], False),
                            (("x", ("y",)), False), (("x y",), False), ("x", False), (("x1",), False)]:
            (self.good if good else self.wrong)(({"f": (words, ONE)}, []))

    def test_names(self):
        for words, word, good in [(("x",), "x", True), (("x",), "y", False), ((), "x", False), (("y", "x"), "x", True), (("x",), "v", False), (("x",), ("x",), False), (("x",), None, False)]:
            (self.good if good else self.wrong)(({"f": (words, ("add", ONE, name(word)))}, []))
        self.wrong(({"f": (("x",), X)}, [X]))
        self.wrong(({}, [("call", "f", ())]))

    def test_calls(self):
        functions = {"f": (("x", "y"), ("call", "f", (X, X))), "none": ((), ("call", "f", (ONE, ("call", "none", ()))))}
        self.good((functions, []))
        for call, good in [(("call", "f", (ONE, ONE)), True), (("call", "none", ()), True), (("call", "f", (ONE,)), False), (("call", "f", (ONE, ONE, ONE)), False), (("call", "f", ()), False), (("call", "g", ()), False),
                           (("call", "none", (ONE,)), False), (("call", "f", [ONE, ONE]), False), (("call", "f"), False), (("call", "f", (ONE, ONE), ONE), False), (("own", "none", ()), False), (("call", ("none",), ()), False),
                           (("call", None, ()), False), (("const", "f", (), "v"), False), (("of", "n"), False), (("add", ONE), False), (("add", ONE, ONE, ONE), False), (("if", ONE, ONE), False), (("less", ONE, ONE), True),
                           (("neg", ONE), False), ((), False), ("num", False), (("call", ["f"], ()), False), (("call", {}, ()), False), (("name", ["x"]), False), (("name", {}), False), (([], ONE), False), (("num",), False), (("num", 1, 1), False), (("name",), False)]:
            (self.good if good else self.wrong)((functions, [call]))
            (self.good if good else self.wrong)(({**functions, "more": (("x",), ("sub", X, call))}, []))

    def test_numbers(self):
        for number, good in [(0, True), (-1, True), (GREATEST, True), (-GREATEST, True), (GREATEST + 1, False), (-GREATEST - 1, False), (10 ** 400, False), (True, False), (False, False), ("1", False), (None, False)]:
            (self.good if good else self.wrong)(({}, [num(number)]))

    def test_depth(self):
        self.good(({"f": (("x",), nested(7, X))}, [nested(7), ONE]))
        self.wrong(({"f": (("x",), nested(8, X))}, [nested(7), ONE]))
        self.wrong(({"f": (("x",), nested(7, X))}, [nested(7), nested(8)]))
        self.good(({"f": ((), ONE)}, [nested(7, ("call", "f", ()))]))
        self.wrong(({"f": (("x",), ONE)}, [nested(7, ("call", "f", (ONE,)))]))
        with NarrowStack():
            self.wrong(({}, [nested(28)]))
            self.wrong(({}, [deep(299)]))
            self.wrong(({"f": (("x",), deep(299))}, []))
            self.wrong(deep(299))


class TestRun(unittest.TestCase):
    def test_values(self):
        functions = {"max": (("x", "y"), ("if", ("less", X, name("y")), name("y"), X)), "five": ((), num(5))}
        rows = [(num(-7), -7), (("add", num(2), num(3)), 5), (("sub", num(2), num(3)), -1), (("mul", num(-2), num(3)), -6), (("less", num(2), num(3)), 1), (("less", num(3), num(3)), 0), (("same", num(3), num(3)), 1),
                (("same", num(3), num(2)), 0), (("if", num(0), num(1), num(2)), 2), (("if", num(-5), num(1), num(2)), 1), (("call", "max", (num(3), ("call", "five", ()))), 5), (("call", "max", (num(8), num(5))), 8)]
        self.assertEqual([value for _, value in rows], run(linked=(functions, [row for row, _ in rows]), most=3))
        self.assertEqual([value for _, value in rows], run((functions, tuple(row for row, _ in rows)), 3))
        self.assertEqual([], run(({}, []), 0))
        found = run(({}, [ONE]), 0)
        found.clear()
        self.assertEqual([1], run(({}, [ONE]), 0))

    def test_functions_that_call_one_another(self):
        even = (("x",), ("if", ("same", X, num(0)), ONE, ("call", "odd", (("sub", X, ONE),))))
        odd = (("x",), ("if", ("same", X, num(0)), num(0), ("call", "even", (("sub", X, ONE),))))
        calls = [("call", "even", (num(k),)) for k in range(8)]
        self.assertEqual([1, 0] * 4, run(({"even": even, "odd": odd}, calls), sum(range(1, 9))))
        self.assertEqual(("TooFar", 35), told(raised(run, ({"even": even, "odd": odd}, calls), 35)))

    def test_errors_and_their_order(self):
        for value in ODD_VALUES:
            error = raised(run, value, value)
            self.assertEqual("InvalidLinked", type(error).__name__)
            self.assertIs(value, error.given)
            if not isinstance(value, int) or isinstance(value, bool) or value < 0:
                self.assertIs(value, raised(run, ({}, []), value).given)
        self.assertEqual(("InvalidMost", 1001), told(raised(run, ({}, [("mul", num(GREATEST), num(2))]), 1001)))
        loop = {"f": ((), ("call", "f", ())), "g": (("x",), X)}
        great, far = ("mul", num(GREATEST), num(2)), ("call", "f", ())
        for prints, error in [([great, far], "TooGreat"), ([far, great], "TooFar"), ([("add", great, far)], "TooGreat"), ([("add", far, great)], "TooFar"), ([("call", "g", (great,))], "TooGreat"), ([("if", ONE, far, great)], "TooFar"),
                              ([("if", num(0), far, great)], "TooGreat"), ([("add", num(GREATEST), ONE)], "TooGreat"), ([("sub", num(-GREATEST), ONE)], "TooGreat")]:
            self.assertEqual(error, told(raised(run, (loop, prints), 1000))[0])
        # The arguments are read, then the function counts, and then it is read.
        self.assertEqual("TooGreat", told(raised(run, (loop, [("call", "g", (great,))]), 0))[0])
        self.assertEqual(("TooFar", 0), told(raised(run, (loop, [("call", "g", (ONE,))]), 0)))
        self.assertEqual(("TooFar", 1), told(raised(run, (loop, [("call", "g", (("call", "g", (ONE,)),))]), 1)))
        self.assertEqual([1], run((loop, [("call", "g", (("call", "g", (ONE,)),))]), 2))
        self.assertEqual([0, 1], run((loop, [("if", num(0), far, num(0)), ONE]), 0))

    def test_most_goes_over_all_prints(self):
        linked = ({"g": (("x",), X)}, [("call", "g", (num(k),)) for k in range(10)])
        self.assertEqual(list(range(10)), run(linked, 10))
        self.assertEqual(("TooFar", 9), told(raised(run, linked, 9)))

    def test_twenty_five_deep_and_one_more(self):
        down = {"down": (("x",), ("if", X, ("add", ONE, ("call", "down", (("sub", X, ONE),))), num(0)))}
        with NarrowStack():
            self.assertEqual([24], run((down, [("call", "down", (num(24),))]), 25))
            self.assertEqual(("TooFar", 1000), told(raised(run, (down, [("call", "down", (num(25),))]), 1000)))
        self.assertEqual(("TooFar", 24), told(raised(run, (down, [("call", "down", (num(24),))]), 24)))
        # Arguments are read where their call stands, not deeper.
        calls = num(24)
        for _ in range(7):
            calls = ("call", "down", (calls,))
        self.assertEqual([24], run((down, [calls]), 175))

    def test_what_is_passed_stays(self):
        linked = all_shapes()
        before = repr(linked)
        self.assertEqual("TooGreat", told(raised(run, linked, 9))[0])
        self.assertEqual("TooFar", told(raised(run, linked, 0))[0])
        self.assertEqual(before, repr(linked))


def random_expression(chance, depth, uses, names, calls):
    """The text of an expression by a source of chance."""
    roll = chance.random()
    if depth == 0 or roll < 0.3:
        rows = [str(chance.randrange(4)), *names, *uses]
        return chance.choice(rows)
    inner = [random_expression(chance, depth - 1, uses, names, calls) for _ in range(3)]
    if roll < 0.6 or not calls:
        return f"({inner[0]}{chance.choice(['+', '-', '*', '<', '='])}{inner[1]})"
    if roll < 0.7:
        return f"(if {inner[0]} then {inner[1]} else {inner[2]})"
    return chance.choice(calls).replace("@", inner[0])


def random_program(chance):
    """A program of a few generics that ask one another less and less."""
    rows = ["gen f<num>", "gen g<type,num>", "gen h<types>"]
    for k in range(3):
        rows += [f"for f<{['0', '1', '#n+2'][k]}>", "  const v = " + str(chance.randrange(5)) + ["", "+f<0>.v", "*2-f<#n+1>.v"][k]]
        calls = ["go(@-1)", f"f<{['0', '0', '#n+1'][k]}>.go(@)"] if k else ["f<0>.be(@)"]
        rows += [f"  fun go(x) = if x<1 then v else {random_expression(chance, 2, [], ['x', 'v'], calls)}", "  fun be(x) = x+v"]
    rows += ["for g<B<?t>,#n>", "  const w = g<?t,#n+1>.w+#n", "  fun go(x) = " + random_expression(chance, 2, ["w", "g<?t,#n>.w"], ["x", "#n"], ["g<?t,#n+1>.go(@)", "f<#n>.be(@)", "h<(?t)>.go(@)"]),
             "for g<?t,#n>", "  const w = #n", "  fun go(x) = " + random_expression(chance, 2, ["w", "f<2>.v"], ["x"], ["f<#n>.go(@)"])]
    rows += ["for h<(?x,..?r)>", "  const u = h<(..?r)>.u+1", "  fun go(x) = " + random_expression(chance, 2, ["u"], ["x"], ["h<(..?r)>.go(@)", "g<?x,3>.go(@)" if chance.random() < 0.3 else "f<1>.be(@)"]), "for h<()>",
             "  const u = 0", "  fun go(x) = x"]
    units = {}
    for word in ["main", "more", "own"][:chance.choice([1, 2, 3])]:
        lines = ["see base"]
        for _ in range(chance.choice([0, 1, 2, 3])):
            prints = random_expression(chance, 3, ["f<3>.v", "g<B<A>,1>.w", "h<(A,B<A>)>.u"], ["2"], ["f<2>.go(@)", "g<B<B<A>>,0>.go(@)", "h<(B<A>)>.go(@)", "f<4>.be(@)"])
            lines.append("print " + prints)
        units[word] = "\n".join(line for line in lines if len(line) <= 200)
    return {"base": "\n".join([BASE_NAMES, *rows])}, units


class TestPlain(unittest.TestCase):
    def outcomes(self, given, most):
        """What the plain reading and the run of the linked program come to."""
        linked = link([made(given, word, 1000) for word in given.units])
        self.assertTrue(is_linked(linked))
        found = []
        for call, value in [(plain, given), (run, linked)]:
            try:
                found.append(call(value, most))
            except ChoiceError as error:
                found.append(type(error))
        return found

    def test_by_chance(self):
        chance, same = random.Random(203), {"value": 0, "far": 0, "error": 0}
        for _ in range(250):
            given = Program(*random_program(chance))
            for most in (1000, 60, 12):
                one, other = self.outcomes(given, most)
                same["far" if one is TooFar else "value" if isinstance(one, list) else "error"] += 1
                if one is not TooFar:
                    self.assertEqual(one, other)
        self.assertGreater(same["value"], 200)
        self.assertGreater(same["far"], 50)

    def test_errors_of_the_same_class(self):
        rows = ["gen f<num>", "for f<#n>", "  const v = 1000000000000000000000000*#n", "  fun go(x) = x*v"]
        given = program(*rows, main="print f<9>.go(1000000)\nprint f<9>.go(1000000)*0+9", more="print f<9>.go(1000001)*1000000")
        self.assertEqual([type(raised(plain, given, 9))] * 2, self.outcomes(given, 9))
        self.assertEqual("TooGreat", told(raised(plain, given, 9))[0])

    def test_own_definitions(self):
        rows = ["gen f<type>", "for f<?t>", "  fun go(x) = x"]
        given = program(*rows, main="name Own 0\nfor f<Own>\n  fun go(x) = 2*x\nprint f<Own>.go(4)", more="print f<A>.go(5)")
        self.assertEqual([[8, 5]] * 2, self.outcomes(given, 9))


if __name__ == "__main__":
    unittest.main()
