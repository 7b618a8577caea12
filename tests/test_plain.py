"""Points [91], [92] and [101]: plain reading, and constants early."""

import unittest

from mostspecial.early import constants
from mostspecial.errors import InvalidMost, InvalidProgram, InvalidUse, InvalidWord
from mostspecial.plain import plain
from mostspecial.programs import Program, faults
from tests.tools import NarrowStack, ODD_VALUES, deep, raised, told, type_of, wide

A = type_of("A")
GREAT = 10 ** 30
BASE = "name A 0\nname B 1\nname P 2\ngen one<>\ngen of<type>\ngen num<num>\ngen all<types>"


def values(*rows, most=1000, headers=None, base=""):
    """The values of the prints of one unit, which sees a header with some names and generics."""
    program = Program({"base": (BASE + "\n" + base).strip("\n"), **(headers or {})}, {"main": "\n".join(["see base", *rows])})
    return plain(program, most)


def failing(*rows, most=1000, base=""):
    """The error that `plain` raises, by its name and attributes."""
    program = Program({"base": (BASE + "\n" + base).strip("\n")}, {"main": "\n".join(["see base", *rows])})
    return told(raised(plain, program, most))


class TestValues(unittest.TestCase):
    def test_signs(self):
        self.assertEqual([7, -1, 12, 1, 0, 0, 1, 0, 5, 6, 6], values(
            "print 3+4", "print 3-4", "print 3*4", "print 3<4", "print 4<3", "print 3<3", "print 3=3", "print 3=4",
            "print if 0 then 4 else 5", "print if 3 then 6 else 7", "print if 0-1 then 6 else 7"))

    def test_number_variables_parameters_and_own_members(self):
        rows = ["for num<2*#n+1>", "  const v = #n", "  const w = v+x", "  const x = 10", "  fun go(x,y) = x-y*#n+v", "  fun me(x) = go(x,w)"]
        self.assertEqual([3, 13, 0, -29], values(*rows, "print num<7>.v", "print num<7>.w", "print num<7>.go(3,2)", "print num<7>.me(7)"))

    def test_a_parameter_hides_a_constant(self):
        rows = ["for one<>", "  const x = 5", "  fun go(x) = x", "  fun me(y) = x"]
        self.assertEqual([3, 5], values(*rows, "print one<>.go(3)", "print one<>.me(3)"))

    def test_units_in_their_order_in_their_own_views(self):
        base = BASE + "\nfor of<?t>\n  const v = 1\nfor of<B<?t>>\n  const v = 10*of<?t>.v"
        units = {"b": "see base\nprint of<B<B<A>>>.v\nprint 5", "a": "see base\nfor of<B<A>>\n  const v = 3\nprint of<B<B<A>>>.v",
                 "c": "see base\nname Own 0\nfor of<Own>\n  const v = 4\nprint of<B<Own>>.v", "d": ""}
        self.assertEqual([30, 100, 5, 40], plain(program=Program({"base": base}, units), most=100))

    def test_recursion(self):
        rows = ["for one<>", "  fun fac(n) = if n<1 then 1 else n*fac(n-1)"]
        self.assertEqual([24], values(*rows, "print one<>.fac(4)"))
        self.assertEqual([0], values("for all<()>", "  const v = 0", "for all<(?x,..?r)>", "  const v = 2+all<(..?r)>.v", "print all<(A,B<A>,A)>.v-6"))

    def test_nothing_and_equal_answers(self):
        self.assertEqual([], plain(Program({}, {}), 0))
        program = Program({}, {"main": "print 1"})
        self.assertIsNot(plain(program, 0), plain(program, 0))
        plain(program, 0).append(2)
        self.assertEqual([1], plain(program, 0))

    def test_few_nested_calls(self):
        rows = ["for one<>", "  fun go(n) = if n<1 then 0 else (1+(0+(0+(0+go(n-1)))))"]
        with NarrowStack():
            self.assertEqual([24], values(*rows, "print one<>.go(24)"))


class TestErrors(unittest.TestCase):
    def test_faults_come_first(self):
        program = Program({"base": "print 1\nprint x"}, {"main": "print 1"})
        for most in [5, -1, None]:
            error = raised(plain, program, most)
            self.assertEqual((InvalidProgram, faults(program)), (type(error), error.given))
            self.assertIsNot(error.given, raised(plain, program, most).given)

    def test_most(self):
        program = Program({}, {"main": "print 1"})
        for most in [0, 1, 1000]:
            self.assertEqual([1], plain(program, most))
        for most in [-1, 1001, True, False, None, "1", [1], (1,), {}, 10 ** 40, A, program]:
            error = raised(plain, program, most)
            self.assertIs(InvalidMost, type(error))
            self.assertIs(most, error.given)
        self.assertEqual(("InvalidMost", 1001), failing("print one<>.v", most=1001))

    def test_greatest_values(self):
        great = "1000000000000000000000000*1000000"
        self.assertEqual([GREAT, -GREAT, 0, GREAT - 1], values(f"print {great}", f"print 0-{great}", f"print {great}-{great}", f"print {great}-1"))
        for row in [f"{great}+1", f"0-{great}-1", f"{great}*2", f"(0-{great})*2", f"{great}+1-1", f"(0-{great}-1)+1", f"{great}+1<3",
                    f"{great}+1=3", f"if {great}+1 then 2 else 3", f"if 1 then {great}+1 else 3"]:
            self.assertEqual(("TooGreat",), failing(f"print {row}"))
        self.assertEqual([3, 0], values(f"print if 0 then {great}+1 else 3", f"print {great}<{great}-1"))

    def test_uses_that_are_too_great(self):
        base = ("\nfor all<(..?r)>\n  const v = 1\n  const w = all<(A,..?r)>.v\n  const two = all<(A,A,..?r)>.v\n"
                "for num<#n>\n  const v = 1\n  const w = num<#n+1>.v\n"
                "for of<?t>\n  const v = 1\n  const w = of<B<?t>>.v")
        program = Program({"base": BASE + base}, {})
        error = ("TooGreat",)
        self.assertEqual(1, constants(program, "base", "all", (wide(3998),), 9)["two"])
        self.assertEqual(error, told(raised(constants, program, "base", "all", (wide(3999),), 9)))
        self.assertEqual(1, constants(program, "base", "num", (10 ** 24 - 1,), 9)["w"])
        self.assertEqual(error, told(raised(constants, program, "base", "num", (10 ** 24,), 9)))
        self.assertEqual({"v": 1, "w": 1}, constants(program, "base", "of", (deep(198),), 9))
        self.assertEqual(error, told(raised(constants, program, "base", "of", (deep(199),), 9)))

    def test_too_great_comes_ahead_of_the_choice(self):
        rows = ["for num<0>", "  const v = 1", "for num<1000000000000000000000000>", "  const v = num<1000000000000000000000000>.w"]
        self.assertEqual(("Lacks", "num", (10 ** 24,), "w", -1), failing(*rows, "print num<1000000000000000000000000>.v"))
        rows = ["for of<B<?t>>", "  const v = num<3>.w", "for num<#n>", "  const w = num<999999999999999999999999*#n+999999999999999999999999>.v"]
        self.assertEqual(("TooGreat",), failing(*rows, "print of<B<A>>.v"))

    def test_no_choice_and_two_choices(self):
        rows = ["for of<B<?t>>", "  const v = of<?t>.v"]
        self.assertEqual(("NoChoice", "of", (A,)), failing(*rows, "print of<B<A>>.v"))
        self.assertEqual(("NoChoice", "one", ()), failing("print one<>.go(1)"))
        rows = ["for of<P<?t,A>>", "  const v = 1", "for of<P<A,?t>>", "  const w = 1"]
        self.assertEqual(("TwoChoices", "of", (type_of("P", A, A),)), failing(*rows, "print of<P<A,A>>.v"))
        self.assertEqual([1], values(*rows, "print of<P<B<A>,A>>.v"))
        self.assertEqual([2], values(*rows, "for of<P<A,A>>", "  const v = 2", "print of<P<A,A>>.v"))

    def test_lacks(self):
        rows = ["for one<>", "  const v = 1", "  fun go(x) = 1"]
        for ask, word, many in [("w", "w", -1), ("go", "go", -1), ("v()", "v", 0), ("go()", "go", 0), ("go(1,2)", "go", 2), ("me(1)", "me", 1)]:
            self.assertEqual(("Lacks", "one", (), word, many), failing(*rows, f"print one<>.{ask}"))
        self.assertEqual([1], values(*rows, "print one<>.go(1)"))
        self.assertEqual(("Lacks", "of", (A,), "w", -1), failing("for of<?t>", "  const v = of<?t>.w", "print of<A>.v"))

    def test_rings(self):
        self.assertEqual(("RingOfConstants", "one", (), "v"), failing("for one<>", "  const v = 1+one<>.v", "print one<>.v"))
        rows = ["for of<A>", "  const v = of<B<A>>.w", "for of<B<A>>", "  const w = u", "  const u = one<>.go(1)", "for one<>", "  fun go(x) = of<A>.v"]
        self.assertEqual(("RingOfConstants", "of", (A,), "v"), failing(*rows, "print of<A>.v"))
        self.assertEqual(("RingOfConstants", "of", (type_of("B", A),), "w"), failing(*rows, "print of<B<A>>.w"))
        # The sides of `if` that are not read ask nothing.
        self.assertEqual([4], values("for one<>", "  const v = if 1 then 4 else one<>.v", "print one<>.v"))
        self.assertEqual(("TooFar", 50), failing("for one<>", "  fun go() = one<>.go()", "print one<>.go()", most=50))

    def test_too_far_by_number(self):
        rows = ["for one<>", "  const v = w+w", "  const w = 1", "  fun go(x) = x+v", "  fun me() = go(1)"]
        prints = ["print one<>.me()", "print one<>.v", "print one<>.go(one<>.w)"]
        self.assertEqual([3, 2, 3], values(*rows, *prints, most=5))
        self.assertEqual(("TooFar", 4), failing(*rows, *prints, most=4))
        self.assertEqual([2], values(*rows, "print one<>.v", most=2))
        self.assertEqual(("TooFar", 1), failing(*rows, "print one<>.v", most=1))
        self.assertEqual(("TooFar", 0), failing(*rows, "print one<>.w", most=0))

    def test_counted_for_all_units_together(self):
        base = BASE + "\nfor one<>\n  const v = 1"
        units = {word: "see base\nprint one<>.v+one<>.v" for word in ["a", "b", "c"]}
        program = Program({"base": base}, units)
        self.assertEqual([2, 2, 2], plain(program, 3))
        self.assertEqual(("TooFar", 2), told(raised(plain, program, 2)))

    def test_too_far_by_depth(self):
        rows = ["for num<0>", "  const v = 1", "  fun go(x) = x", "for num<#n+1>", "  const v = num<#n>.v", "  fun go(x) = num<#n>.go(x)"]
        self.assertEqual([1, 5], values(*rows, "print num<24>.v", "print num<24>.go(5)"))
        self.assertEqual(("TooFar", 1000), failing(*rows, "print num<25>.v"))
        self.assertEqual(("TooFar", 1000), failing(*rows, "print num<25>.go(5)"))
        # A kept value may be asked for at any depth, and is reckoned from where it is first asked for.
        self.assertEqual([1, 1], values(*rows, "print num<20>.v", "print num<40>.v"))
        self.assertEqual([7], values("for one<>", "  const v = 7", "  fun go(n) = if n<2 then v else go(n-1)", "print one<>.go(24)"))
        self.assertEqual(("TooFar", 1000), failing("for one<>", "  const v = 7", "  fun go(n) = if n<2 then v else go(n-1)", "print one<>.go(25)"))
        self.assertEqual([7, 7], values("for one<>", "  const v = 7", "  fun go(n) = if n<2 then v else go(n-1)", "print one<>.v", "print one<>.go(25)"))

    def test_arguments_lie_where_their_call_stands(self):
        rows = ["for one<>", "  fun id(x) = x", "  fun go(n) = if n<2 then id(id(id(1))) else go(id(id(n))-1)"]
        self.assertEqual([1], values(*rows, "print one<>.go(24)"))
        self.assertEqual(("TooFar", 1000), failing(*rows, "print one<>.go(25)"))


class TestOrder(unittest.TestCase):
    GREAT = "1000000000000000000000000*1000000*2"

    def first(self, *rows):
        return failing(*rows, base="for of<A>\n  const v = 1\n  fun go(x,y) = 1")[:2]

    def test_sides(self):
        for sign in "+-*<=":
            self.assertEqual(("Lacks", "of"), self.first(f"print of<A>.w{sign}one<>.v"))
            self.assertEqual(("NoChoice", "one"), self.first(f"print one<>.v{sign}of<A>.w"))
            self.assertEqual(("NoChoice", "one"), self.first(f"print one<>.v{sign}{self.GREAT}"))
            self.assertEqual(("TooGreat",), self.first(f"print ({self.GREAT}){sign}one<>.v"))

    def test_if(self):
        self.assertEqual(("Lacks", "of"), self.first("print if of<A>.w then one<>.v else one<>.v"))
        self.assertEqual(("NoChoice", "one"), self.first("print if of<A>.v then one<>.v else of<A>.w"))
        self.assertEqual(("Lacks", "of"), self.first("print if of<A>.v-1 then one<>.v else of<A>.w"))

    def test_arguments_come_first(self):
        self.assertEqual(("Lacks", "of"), self.first("print one<>.go(of<A>.w)"))
        self.assertEqual(("Lacks", "of"), self.first("print of<A>.go(of<A>.w,one<>.v)"))
        self.assertEqual(("NoChoice", "one"), self.first("print of<A>.go(one<>.v,of<A>.w)"))
        self.assertEqual(("NoChoice", "one"), self.first("print of<A>.none(one<>.v)"))

    def test_prints_and_units(self):
        self.assertEqual(("NoChoice", "one"), self.first("print one<>.v", "print of<A>.w"))
        units = {"b": "see base\nprint of<A>.v", "a": "see base\nprint one<>.v"}
        self.assertEqual(("NoChoice", "one", ()), told(raised(plain, Program({"base": BASE}, units), 5)))

    def test_choice_member_ring_count(self):
        rows = ["for one<>", "  const v = of<A>.w"]
        self.assertEqual(("NoChoice", "of", (A,)), failing(*rows, "print one<>.v", most=1))
        self.assertEqual(("Lacks", "of", (A,), "w", -1), failing(*rows, "for of<A>", "print one<>.v", most=1))
        self.assertEqual(("TooFar", 1), failing(*rows, "for of<A>", "  const w = 1", "print one<>.v", most=1))
        self.assertEqual(("RingOfConstants", "one", (), "v"), failing("for one<>", "  const v = one<>.v", "print one<>.v", most=1))

    def test_kept_behind_most_others(self):
        rows = ["for one<>", "  const v = 1", "for of<A>", "  const w = one<>.v"]
        self.assertEqual([1, 1, 1, 1], values(*rows, "print of<A>.w", "print one<>.v", "print of<A>.w", "print one<>.v", most=2))


class TestConstants(unittest.TestCase):
    BASE = ("name A 0\nname B 1\ngen num<num>\ninner gen hid<type,num>\nfor num<0>\n  fun go() = 1\nfor num<#n+1>\n  const w = 1+v\n  const v = hid<A,#n>.v\n"
            "  const u = w+v+num<#n>.go()\nfor hid<?t,#n>\n  const v = #n*10")

    def program(self, *rows):
        return Program({"base": self.BASE, "more": "see base\nfor hid<A,2>\n  const v = 7\nfor hid<B<?t>,3>\nfor hid<B<A>,#n>"},
                       {"main": "see more\nfor num<2>\n  const z = num<4>.v", "own": "name Own 0\nsee base\nfor num<5>\n  const v = num<1>.u"})

    def test_values_in_their_order(self):
        program = self.program()
        self.assertEqual([("w", 1), ("v", 0), ("u", 2)], list(constants(program, "base", "num", (1,), 9).items()))
        self.assertEqual([("v", 20)], list(constants(program, "base", "hid", (A, 2), 9).items()))
        self.assertEqual({"v": 7}, constants(program=program, word="more", generic="hid", terms=(A, 2), most=9))
        self.assertEqual({"z": 30}, constants(program, "main", "num", (2,), 9))
        self.assertEqual({"v": 2}, constants(program, "own", "num", (5,), 9))
        self.assertEqual({}, constants(program, "base", "num", (0,), 0))
        self.assertEqual({"v": 30}, constants(program, "main", "hid", (type_of("Own"), 3), 1))
        self.assertIsNot(constants(program, "base", "num", (0,), 0), constants(program, "base", "num", (0,), 0))

    def test_most(self):
        program = self.program()
        self.assertEqual({"w": 1, "v": 0, "u": 2}, constants(program, "base", "num", (1,), 5))
        self.assertEqual(("TooFar", 4), told(raised(constants, program, "base", "num", (1,), 4)))

    def test_order_of_errors(self):
        program = self.program()
        wrong = Program({"base": "print 1"}, {})
        self.assertEqual(("InvalidProgram", [("base", 1, "print")]), told(raised(constants, wrong, None, None, None, None)))
        for word in [*ODD_VALUES, "none", "Main", "num"]:
            error = raised(constants, program, word, None, None, None)
            self.assertIs(InvalidWord, type(error))
            self.assertIs(word, error.given)
        for generic, terms in [*[(value, (1,)) for value in ODD_VALUES], *[("num", value) for value in ODD_VALUES], ("none", ()), ("num", [1]), ("num", (A,)),
                               ("num", (True,)), ("num", (1, 1)), ("num", ()), ("num", (-1,)), ("num", (10 ** 24 + 1,)), ("num", (("form", 1, "n", 0),)),
                               ("hid", (deep(200), 1)), ("hid", (("var", "t"), 1)), ("hid", (("type", "B", ()), 1)), ("hid", (("type", "Own", (A,)), 1))]:
            error = raised(constants, program, "main", generic, terms, None)
            self.assertIs(InvalidUse, type(error))
            self.assertIs(generic, error.given[0])
            self.assertIs(terms, error.given[1])
        for most in [-1, 1001, True, None, "x"]:
            self.assertEqual(("InvalidMost", most), told(raised(constants, program, "more", "hid", (type_of("B", A), 3), most)))
        self.assertEqual(("TwoChoices", "hid", (type_of("B", A), 3)), told(raised(constants, program, "more", "hid", (type_of("B", A), 3), 0)))
        none = Program({"base": "gen one<>"}, {"main": ""})
        self.assertEqual(("NoChoice", "one", ()), told(raised(constants, none, "base", "one", (), 0)))
        self.assertEqual(("InvalidUse", ("one", ())), told(raised(constants, none, "main", "one", (), 0)))

    def test_first_error(self):
        base = "gen one<>\nfor one<>\n  const a = b*0\n  const b = one<>.a\n  const c = one<>.d"
        self.assertEqual(("RingOfConstants", "one", (), "a"), told(raised(constants, Program({"base": base}, {}), "base", "one", (), 9)))
        base = "gen one<>\nfor one<>\n  const a = 1\n  const b = one<>.d\n  const c = one<>.c"
        self.assertEqual(("Lacks", "one", (), "d", -1), told(raised(constants, Program({"base": base}, {}), "base", "one", (), 9)))
        self.assertEqual(("TooFar", 1), told(raised(constants, Program({"base": base}, {}), "base", "one", (), 1)))

    def test_deep_uses(self):
        program = self.program()
        with NarrowStack():
            self.assertEqual({"v": 50}, constants(program, "base", "hid", (deep(199), 5), 9))


if __name__ == "__main__":
    unittest.main()
