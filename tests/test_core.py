"""Point [201]: what units become."""

import unittest

from mostspecial.books import book
from mostspecial.core import made
from mostspecial.early import constants
from mostspecial.instances import instances, roots
from mostspecial.link import is_linked, link
from tests.tools import NarrowStack, ODD_VALUES, program, raised, told, type_of

A = type_of("A")
EMPTY = ("list", (), None)


def num(number):
    return ("num", number)


def name(word):
    return ("name", word)


class TestFunctions(unittest.TestCase):
    def functions(self, given, word="main", most=99):
        found = made(program=given, word=word, most=most)
        self.assertEqual(found, made(given, word, most))
        self.assertTrue(is_linked(found[:2]))
        return found[0]

    def test_names(self):
        given = program("gen all<type,num,types,pile>", "for all<?t,#n,(..?r),(..?p)>", "  fun go(x) = x", "  fun be() = 1", "gen one<>", "for one<>", "  fun go() = 2",
                        main="print all<P<A,B<A>>,30,(A,B<A>),(A)>.go(1)+one<>.go()\nprint all<Zed,0,(),()>.be()\nname Zed 0")
        names = self.functions(given)
        self.assertEqual(["all<P<A,B<A>>,30,(A,B<A>),(A)>.be", "all<P<A,B<A>>,30,(A,B<A>),(A)>.go", "all<Zed,0,(),()>.be", "all<Zed,0,(),()>.go", "one<>.go"], sorted(names))
        self.assertEqual((("x",), name("x")), names["all<Zed,0,(),()>.go"])
        self.assertEqual(((), num(1)), names["all<Zed,0,(),()>.be"])

    def test_numbers_and_constants(self):
        given = program("gen f<num,num>", "for f<3*#n+1,#m>", "  const v = #n-#m", "  const w = v*v-g<#m>.v", "  fun go(x,y) = x+v*#n-(w+#m)*y+g<#m>.v", "gen g<num>", "for g<#n>", "  const v = 0-#n",
                        main="print f<7,5>.go(1,2)")
        self.assertEqual({"f<7,5>.go": (("x", "y"), ("add", ("sub", ("add", name("x"), ("mul", num(-3), num(2))), ("mul", ("add", num(14), num(5)), name("y"))), num(-5)))}, self.functions(given))

    def test_parameters_hide_constants(self):
        given = program("gen f<>", "for f<>", "  const v = 7", "  fun go(v) = v+f<>.v", "  fun be(w) = v", main="print f<>.go(1)")
        self.assertEqual({"f<>.go": (("v",), ("add", name("v"), num(7))), "f<>.be": (("w",), num(7))}, self.functions(given))

    def test_number_variables_with_the_words_of_parameters(self):
        given = program("gen f<num>", "for f<#x>", "  const v = #x", "  fun go(x,v) = x+#x*v", main="print f<4>.go(1,2)")
        self.assertEqual({"f<4>.go": (("x", "v"), ("add", name("x"), ("mul", num(4), name("v"))))}, self.functions(given))

    def test_calls(self):
        given = program("gen f<type>", "for f<B<?t>>", "  fun go(x) = be(f<?t>.go(x),f<P<?t,?t>>.go(go(x)))", "  fun be(x,y) = x*y", "for f<?t>", "  fun go(x) = x", main="print f<B<A>>.go(4)")
        first = ("call", "f<A>.go", (name("x"),))
        self.assertEqual((("x",), ("call", "f<B<A>>.be", (first, ("call", "f<P<A,A>>.go", (("call", "f<B<A>>.go", (name("x"),)),))))), self.functions(given)["f<B<A>>.go"])

    def test_both_sides_of_if(self):
        given = program("gen f<num>", "for f<0>", "  const v = 3", "  fun go() = 1", "for f<#n+1>", "  const v = f<#n>.v+1", "  fun go() = if f<#n>.v<v then f<#n>.go() else if v=#n then f<#n>.v else 2",
                        main="print f<1>.go()")
        self.assertEqual(((), ("if", ("less", num(3), num(4)), ("call", "f<0>.go", ()), ("if", ("same", num(4), num(0)), num(3), num(2)))), self.functions(given)["f<1>.go"])

    def test_uses_without_functions(self):
        given = program("gen f<num>", "for f<0>", "  const v = 3", "for f<#n+1>", "  const v = f<#n>.v+1", main="print f<9>.v")
        self.assertEqual({}, self.functions(given))

    def test_the_view_of_the_unit(self):
        given = program("gen f<type>", "for f<?t>", "  fun go() = f<B<?t>>.be()", "  fun be() = 1", main="for f<B<?t>>\n  fun be() = 2\nprint f<A>.go()", other="for f<B<?t>>\n  fun be() = 3\n  fun on() = 4\nprint f<A>.be()")
        self.assertEqual(((), num(2)), self.functions(given)["f<B<A>>.be"])
        self.assertEqual(["f<A>.be", "f<A>.go", "f<B<A>>.be", "f<B<A>>.on"], sorted(self.functions(given, "other")))

    def test_greatest_numbers(self):
        given = program("gen f<num>", "for f<#n>", "  const v = 0-#n*1000000", "  fun go() = v", main=f"print f<{10 ** 24}>.go()")
        self.assertEqual({f"f<{10 ** 24}>.go": ((), num(-10 ** 30))}, self.functions(given))


class TestPrintsAndBook(unittest.TestCase):
    def test_prints(self):
        given = program("gen f<num>", "for f<#n>", "  const v = 0-2*#n", "  fun go(x) = x", main="print 1\nprint 2*f<3>.v-1\nname Own 0\nprint if f<3>.v<0 then f<2>.go(f<1>.v) else f<2>.go(f<2>.go(9))")
        self.assertEqual([num(1), ("sub", ("mul", num(2), num(-6)), num(1)), ("if", ("less", num(-6), num(0)), ("call", "f<2>.go", (num(-2),)), ("call", "f<2>.go", (("call", "f<2>.go", (num(9),)),)))],
                         made(given, "main", 3)[1])

    def test_a_unit_without_prints(self):
        given = program("gen f<num>", "for f<#n>", "  fun go(x) = x", main="name Own 0", none="for f<7>")
        self.assertEqual([({}, [], {})] * 2, [made(given, word, 0) for word in ("main", "none")])
        self.assertEqual(({}, [num(5)], {}), made(program(main="print 5"), "main", 0))

    def test_book(self):
        given = program("gen f<type,type>", "for f<B<?t>,?c>", "  fun go(x) = f<?t,B<?c>>.go(x)", "for f<?t,?c>", "  fun go(x) = x", main="print f<B<B<A>>,A>.go(1)+f<B<A>,A>.go(2)")
        functions, prints, told_book = made(given, "main", 9)
        self.assertEqual({"f<B<B<A>>>": ("base", 0), "f<B<A>>": ("base", 0), "f<A>": ("base", 1)}, told_book)
        self.assertEqual(told_book, book(given, "main", roots(given, "main"), 9))
        self.assertEqual(5, len(functions))
        self.assertEqual(5, len(instances(given, "main", roots(given, "main"), 9)))

    def test_what_is_returned_is_new(self):
        given = program("gen f<num>", "for f<#n>", "  fun go(x) = x", main="print f<1>.go(2)")
        found = made(given, "main", 9)
        functions, prints, told_book = found
        again = made(given, "main", 9)
        functions.clear()
        prints.clear()
        told_book.clear()
        self.assertEqual((1, 1, 1), tuple(map(len, again)))
        self.assertEqual(again, made(given, "main", 9))


class TestErrors(unittest.TestCase):
    ROWS = ("gen f<num>", "for f<#n+1>", "  const v = f<#n>.v", "  fun go(x) = x", "for f<0>", "  const v = 1")

    def test_programs_and_words(self):
        wrong = program("print 1", main="print f<0>.v")
        given = program(*self.ROWS, main="print f<1>.v")
        for value in [*ODD_VALUES, "base", "mains"]:
            self.assertEqual("InvalidProgram", told(raised(made, wrong, value, value))[0])
            error = raised(made, given, value, None)
            self.assertEqual("InvalidWord", type(error).__name__)
            self.assertIs(value, error.given)

    def test_most(self):
        given = program(*self.ROWS, main="print f<3>.v+f<2>.v")
        for value in [*ODD_VALUES, 1001]:
            if not (isinstance(value, int) and not isinstance(value, bool) and 0 <= value <= 1000):
                error = raised(made, given, "main", value)
                self.assertEqual("InvalidMost", type(error).__name__)
                self.assertIs(value, error.given)
        self.assertEqual(4, len(made(given, "main", 4)[2]))
        for most in (0, 1, 2, 3):
            self.assertEqual(("TooMany", most), told(raised(made, given, "main", most)))
        self.assertEqual(4, len(made(given, "main", 1000)[2]))

    def test_what_instances_raise(self):
        self.assertEqual(("NoChoice", "f", (0,)), told(raised(made, program(*self.ROWS[:4], main="print f<2>.v"), "main", 9)))
        given = program(*self.ROWS, "for f<2*#n>", "  const v = 1", main="print f<4>.v")
        self.assertEqual(("TwoChoices", "f", (4,)), told(raised(made, given, "main", 9)))
        given = program("gen f<num>", "for f<#n+1>", "  const v = f<#n>.w", "for f<0>", "  const v = 1", main="print f<1>.v")
        self.assertEqual(("Lacks", "f", (0,), "w", -1), told(raised(made, given, "main", 9)))
        given = program("gen f<num>", "for f<#n>", "  fun go() = f<10*#n+1>.go()", main=f"print f<{10 ** 23}>.go()")
        self.assertEqual(("TooGreat",), told(raised(made, given, "main", 99)))
        given = program("gen p<pile>", "for p<(A,A,..?r)>", "  const v = 2", "for p<(..?r)>", "  const v = 1", main="print p<(A)>.w+p<(A,A)>.v")
        self.assertEqual(("Unlike", "p<A>"), told(raised(made, given, "main", 9)))

    def test_what_prints_ask_that_is_lacked(self):
        rows = [*self.ROWS, "for f<7>", "  fun be(x) = x", "  const round = f<7>.round"]
        for text, expected in [("print f<1>.w", (1, "w", -1)), ("print f<1>.go", (1, "go", -1)), ("print f<1>.go()", (1, "go", 0)), ("print f<1>.v(1)", (1, "v", 1)), ("print f<1>.go(1)+f<0>.go(1)", (0, "go", 1)),
                               ("print f<1>.be(f<0>.w)", (1, "be", 1)), ("print f<1>.go(f<0>.w,1)", (1, "go", 2)), ("print if 0 then f<0>.w else f<1>.w", (0, "w", -1)), ("print f<1>.v\nprint f<1>.no+f<0>.no", (1, "no", -1)),
                               ("print f<7>.be(1)+f<7>.no", (7, "no", -1)), ("print f<7>.be(1)\nprint f<1>.be(1)", (1, "be", 1))]:
            given = program(*rows, main=text)
            terms, word, many = expected
            self.assertEqual(("Lacks", "f", (terms,), word, many), told(raised(made, given, "main", 9)), text)
            self.assertEqual("InvalidMost", told(raised(made, given, "main", -1))[0])
        # The uses are made ahead of what the prints ask of them.
        self.assertEqual(("NoChoice", "f", (0,)), told(raised(made, program(*self.ROWS[:4], main="print f<1>.w"), "main", 9)))

    def test_what_constants_raise(self):
        rows = ["gen f<num>", "for f<0>", "  const v = f<0>.v", "for f<1>", "  const v = 1000000000000000000000000*1000000000", "for f<2>", "  const v = 1", "  fun go() = f<1>.v", "for f<3>", "  const v = f<0>.v+1",
                "for f<#n+4>", "  const v = f<#n+3>.v"]
        for text, error in [("print f<2>.v", ("TooGreat",)), ("print f<0>.v", ("RingOfConstants", "f", (0,), "v")), ("print f<2>.v+f<0>.v", ("RingOfConstants", "f", (0,), "v")),
                            ("print f<3>.v", ("RingOfConstants", "f", (0,), "v")), ("print f<1>.v+f<0>.v", ("TooGreat",)), ("print f<0>.v+f<1>.v", ("RingOfConstants", "f", (0,), "v"))]:
            given = program(*rows, main=text)
            self.assertEqual(error, told(raised(made, given, "main", 99)), text)
        # A constant that nobody reads is reckoned, too.
        given = program("gen f<>", "for f<>", "  const v = 1", "  const w = f<>.w", main="print f<>.v")
        self.assertEqual(("RingOfConstants", "f", (), "w"), told(raised(made, given, "main", 99)))
        # Constants are at most 25 deep, and 1000 of them are reckoned at most for one use.
        rows = ["gen f<num>", "for f<#n+1>", "  const v = f<#n>.v+1", "for f<0>", "  const v = 1"]
        self.assertEqual([num(25)], made(program(*rows, main="print f<24>.v"), "main", 99)[1])
        self.assertEqual(("TooFar", 1000), told(raised(made, program(*rows, main="print f<25>.v"), "main", 99)))
        self.assertEqual(("TooFar", 1000), told(raised(constants, program(*rows, main="print f<25>.v"), "main", "f", (25,), 1000)))

    def test_great_uses(self):
        given = program("gen f<type>", "for f<?t>", "  fun go(x) = x", main="print f<A>.go(1)")
        with NarrowStack():
            self.assertEqual(1, len(made(given, "main", 9)[0]))
        given = program("gen f<type>", "for f<B<?t>>", "  const v = f<?t>.v", "  fun go() = v", "for f<A>", "  const v = 1", main="print f<" + "B<" * 20 + "A" + ">" * 20 + ">.go()")
        with NarrowStack():
            self.assertEqual(20, len(made(given, "main", 99)[0]))

    def test_what_is_linked(self):
        given = program(*self.ROWS, main="print f<3>.go(2)")
        part = made(given, "main", 9)
        self.assertEqual((part[0], part[1]), link([part]))


if __name__ == "__main__":
    unittest.main()
