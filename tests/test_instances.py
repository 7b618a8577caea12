"""Points [111] and [112]: what is asked, roots and instances."""

import unittest

from mostspecial.errors import InvalidMost, InvalidRoots, InvalidUse, InvalidWord
from mostspecial.instances import asked, instances, roots
from mostspecial.programs import Program
from tests.tools import NarrowStack, ODD_VALUES, deep, raised, told, type_of, wide

A = type_of("A")
B = type_of("B", A)
EMPTY = ("list", (), None)
BASE = "name A 0\nname B 1\nname P 2\ngen one<>\ngen of<type>\ngen num<num>\ngen all<types,pile>\ninner gen hid<type,num>"


def program(*rows, **units):
    return Program({"base": "\n".join([BASE, *rows])}, {word: "see base\n" + units[word] for word in units})


class TestAsked(unittest.TestCase):
    def test_order_and_each_once(self):
        rows = ["for of<B<?t>>", "  const v = if of<?t>.v then of<?t>.w else of<B<B<?t>>>.v", "  fun go(x,y) = of<?t>.go(of<?t>.go(1,x),num<3>.v,one<>.go())",
                "  const w = v+of<?t>.v*of<A>.w+go(num<4>.v,num<3>.v)"]
        self.assertEqual([("of", (A,), "v", -1), ("of", (A,), "w", -1), ("of", (type_of("B", B),), "v", -1), ("of", (A,), "go", 3), ("of", (A,), "go", 2),
                          ("num", (3,), "v", -1), ("one", (), "go", 0), ("num", (4,), "v", -1)],
                         asked(program=program(*rows), word="base", generic="of", terms=(B,)))
        # Here, of<A> does not become what of<?t> becomes.
        self.assertEqual(("of", (A,), "w", -1), asked(program(*rows), "base", "of", (type_of("B", B),))[-2])

    def test_terms_in_place_of_variables(self):
        rows = ["for all<(?x,..?r),(..?p)>", "  const v = all<(..?r),(?x,?x,..?r)>.v", "for hid<?t,2*#n+1>", "  fun go() = hid<P<?t,B<?t>>,3*#n+2>.go()"]
        one = type_of("C")
        self.assertEqual([("all", (("list", (A,), None), ("list", (one, one, A), None)), "v", -1)],
                         asked(program(*rows), "base", "all", (("list", (one, A), None), EMPTY)))
        self.assertEqual([("hid", (type_of("P", A, B), 11), "go", 0)], asked(program(*rows), "base", "hid", (A, 7)))

    def test_what_asks_nothing(self):
        rows = ["for one<>", "  const v = 1", "  const w = v+go(v)", "  fun go(x) = x"]
        found = asked(program(*rows), "base", "one", ())
        self.assertEqual([], found)
        found.append(None)
        self.assertEqual([], asked(program(*rows), "base", "one", ()))

    def test_uses_that_are_too_great(self):
        rows = ["for num<#n>", "  const v = num<10*#n+1>.v", "for of<?t>", "  const v = of<P<?t,?t>>.v", "for all<(..?r),()>", "  fun go() = all<(A,..?r),()>.go()"]
        self.assertEqual([("num", (10 ** 25 + 1,), "v", -1)], asked(program(*rows), "base", "num", (10 ** 24,)))
        self.assertEqual([("all", (wide(4001), EMPTY), "go", 0)], asked(program(*rows), "base", "all", (wide(4000), EMPTY)))
        with NarrowStack():
            found = asked(program(*rows), "base", "of", (deep(199),))
        self.assertEqual("P", found[0][1][0][1])

    def test_the_view(self):
        given = program("for of<?t>", "  const v = one<>.v", main="for of<A>\n  const v = of<B<A>>.v\n  const w = 1")
        self.assertEqual([("one", (), "v", -1)], asked(given, "base", "of", (A,)))
        self.assertEqual([("of", (B,), "v", -1)], asked(given, "main", "of", (A,)))

    def test_errors(self):
        wrong = Program({"base": "print 1"}, {})
        self.assertEqual(("InvalidProgram", [("base", 1, "print")]), told(raised(asked, wrong, None, None, None)))
        given = program("for of<P<?t,A>>", "for of<P<A,?t>>")
        for word in [*ODD_VALUES, "main"]:
            self.assertIs(InvalidWord, type(raised(asked, given, word, None, None)))
        for value in [*ODD_VALUES, (deep(200),), (10,), (A, A), (("type", "A", (A,)),)]:
            if value != ():
                error = raised(asked, given, "base", "one", value)
                self.assertEqual((InvalidUse, "one"), (type(error), error.given[0]))
                self.assertIs(value, error.given[1])
            self.assertIs(InvalidUse, type(raised(asked, given, "base", value, ())))
        self.assertEqual(("NoChoice", "of", (A,)), told(raised(asked, given, "base", "of", (A,))))
        self.assertEqual(("TwoChoices", "of", (type_of("P", A, A),)), told(raised(asked, given, "base", "of", (type_of("P", A, A),))))


class TestRoots(unittest.TestCase):
    def test_roots(self):
        prints = "print of<A>.go(num<3>.v,one<>.v)\nprint if num<3>.w then of<A>.v else of<B<A>>.v\nprint 1+one<>.go()*num<4>.v"
        given = program(main=prints, other="print 3", more="name Own 0")
        self.assertEqual([("of", (A,)), ("num", (3,)), ("one", ()), ("of", (B,)), ("num", (4,))], roots(program=given, word="main"))
        self.assertEqual([[], [], []], [roots(given, word) for word in ["base", "other", "more"]])
        roots(given, "main").clear()
        self.assertEqual(5, len(roots(given, "main")))

    def test_errors(self):
        self.assertEqual(("InvalidProgram", [("base", 1, "print")]), told(raised(roots, Program({"base": "print 1"}, {}), None)))
        for word in [*ODD_VALUES, "main"]:
            error = raised(roots, program(), word)
            self.assertIs(InvalidWord, type(error))
            self.assertIs(word, error.given)


class TestInstances(unittest.TestCase):
    DOWN = ("for num<0>", "  const v = 1", "for num<#n+1>", "  const v = num<#n>.v+of<A>.v", "for of<?t>", "  const v = one<>.v", "for one<>", "  const v = 2")

    def test_order(self):
        given = program(*self.DOWN)
        rows = [("num", (2,), ("base", 1)), ("num", (1,), ("base", 1)), ("of", (A,), ("base", 2)), ("num", (0,), ("base", 0)), ("one", (), ("base", 3))]
        self.assertEqual(rows, instances(program=given, word="base", roots=[("num", (2,))], most=5))
        self.assertEqual([("one", (), ("base", 3)), ("num", (1,), ("base", 1)), ("num", (0,), ("base", 0)), ("of", (A,), ("base", 2))],
                         instances(given, "base", (("one", ()), ("num", (1,)), ("one", ())), 4))
        self.assertEqual([("num", (1,), ("base", 1)), ("one", (), ("base", 3)), ("num", (0,), ("base", 0)), ("of", (A,), ("base", 2))],
                         instances(given, "base", (("num", (1,)), ("one", ())), 4))
        self.assertEqual([], instances(given, "base", [], 0))
        self.assertEqual([("hid", (A, 3), ("base", 4))], instances(program(*self.DOWN, "for hid<?t,#n>"), "base", [("hid", (A, 3))], 1))

    def test_the_view(self):
        given = program(*self.DOWN, main="for of<A>\n  const v = 5\nname Own 0")
        self.assertEqual([("num", (1,), ("base", 1)), ("num", (0,), ("base", 0)), ("of", (A,), ("main", 0))], instances(given, "main", [("num", (1,))], 3))
        self.assertEqual(("of", (type_of("Own"),), ("base", 2)), instances(given, "main", [("of", (type_of("Own"),))], 3)[0])

    def test_what_is_passed_stays(self):
        uses = [("one", ()), ("num", (2,)), ("one", ())]
        found = instances(program(*self.DOWN), "base", uses, 9)
        self.assertEqual([("one", ()), ("num", (2,)), ("one", ())], uses)
        found.clear()
        self.assertEqual(5, len(instances(program(*self.DOWN), "base", uses, 9)))

    def test_most(self):
        given = program(*self.DOWN)
        self.assertEqual(5, len(instances(given, "base", [("num", (2,))], 5)))
        self.assertEqual(("TooMany", 4), told(raised(instances, given, "base", [("num", (2,))], 4)))
        uses = [("one", ()), ("of", (A,)), ("one", ())]
        self.assertEqual(2, len(instances(given, "base", uses, 2)))
        self.assertEqual(("TooMany", 1), told(raised(instances, given, "base", uses, 1)))
        self.assertEqual(("TooMany", 0), told(raised(instances, given, "base", [("one", ())], 0)))
        endless = program("for num<#n>", "  const v = num<#n+1>.v")
        self.assertEqual(("TooMany", 1000), told(raised(instances, endless, "base", [("num", (0,))], 1000)))

    def test_invalid_arguments(self):
        self.assertEqual(("InvalidProgram", [("base", 1, "print")]), told(raised(instances, Program({"base": "print 1"}, {}), None, None, None)))
        given = program(*self.DOWN)
        for word in [*ODD_VALUES, "main"]:
            self.assertIs(InvalidWord, type(raised(instances, given, word, None, None)))
        for value in ODD_VALUES:
            for uses in [value, [value], [("one", ()), value], [("one", value)], [(value, ())], [("one", (), value)]]:
                if uses in ([], (), [("one", ())]) and value != ["type"]:
                    continue
                error = raised(instances, given, "base", uses, None)
                self.assertIs(InvalidRoots, type(error), uses)
                self.assertIs(uses, error.given)
        for uses in [[["one", ()]], [("num", (10 ** 24 + 1,))], [("of", (deep(200),))], [("none", ())], [("num", (True,))], [("num", (A,))]]:
            self.assertIs(InvalidRoots, type(raised(instances, given, "base", uses, None)))
        for most in [-1, 1001, True, None, "1", [3]]:
            error = raised(instances, given, "base", [("one", ()), ("num", (1,))], most)
            self.assertIs(InvalidMost, type(error))
            self.assertIs(most, error.given)

    def test_order_of_errors(self):
        def check(uses, most, expected, *rows):
            self.assertEqual(expected, told(raised(instances, program(*rows), "base", uses, most)))
        two = ("for of<P<?t,A>>", "for of<P<A,?t>>")
        both = type_of("P", A, A)
        check([("one", ()), ("of", (A,))], 1, ("TooMany", 1))
        check([("one", ()), ("of", (A,))], 2, ("NoChoice", "one", ()))
        check([("of", (both,)), ("one", ())], 2, ("TwoChoices", "of", (both,)), *two)
        # What the first root asks comes ahead of the second root, and what is asked first ahead of the rest.
        check([("one", ()), ("of", (A,))], 2, ("TooMany", 2), "for one<>", "  const v = num<3>.v")
        check([("one", ()), ("of", (A,))], 3, ("NoChoice", "num", (3,)), "for one<>", "  const v = num<3>.v")
        check([("one", ()), ("of", (A,))], 3, ("TwoChoices", "of", (both,)), "for one<>", "  const v = of<P<A,A>>.v+num<3>.v", *two)
        check([("one", ()), ("of", (A,))], 3, ("Lacks", "one", (), "w", -1), "for one<>", "  const v = one<>.w+num<3>.v")
        check([("one", ()), ("of", (A,))], 2, ("Lacks", "one", (), "go", 1), "for one<>", "  const v = one<>.go(num<3>.v)")
        check([("one", ())], 2, ("Lacks", "num", (3,), "v", -1), "for one<>", "  const v = num<3>.v", "for num<#n>", "  fun v() = 1")
        # Being too great comes behind TooMany and ahead of having no choice.
        great = ("for num<#n>", "  const v = num<#n+1>.w", "for hid<?t,#n>", "  const v = hid<B<?t>,#n>.w")
        check([("num", (10 ** 24,))], 1, ("TooMany", 1), *great)
        check([("num", (10 ** 24,))], 2, ("TooGreat",), *great)
        check([("hid", (deep(199), 1))], 2, ("TooGreat",), *great)
        check([("num", (3,))], 2, ("Lacks", "num", (4,), "w", -1), *great)
        check([("num", (3,))], 1, ("TooMany", 1), *great)
        few = ("for num<999999999999999999999999*#n+999999999999999999999999>", "  const v = num<#n+1000000000000000000000000>.v")
        check([("num", (999999999999999999999999,))], 2, ("NoChoice", "num", (10 ** 24,)), *few)


if __name__ == "__main__":
    unittest.main()
