"""Points [81] to [83]: programs, their faults, and views."""

import unittest

from mostspecial.errors import InvalidLine, InvalidProgram, InvalidWord
from mostspecial.programs import Program, faults, prints_in, view
from tests.tools import ODD_VALUES, raised, type_of

A = type_of("A")
NUM = ("num", 1)


def lines(*rows):
    return "\n".join(rows)


class TestProgram(unittest.TestCase):
    def test_words(self):
        headers, units = {"more": "", "base": "", "a": ""}, {"z": "", "main": ""}
        program = Program(headers=headers, units=units)
        headers["other"] = "x"
        units.clear()
        self.assertEqual((("a", "base", "more"), ("main", "z")), (program.headers, program.units))
        self.assertEqual([], faults(program))
        self.assertEqual(((), ()), (Program({}, {}).headers, Program({}, {}).units))

    def test_texts_are_not_changed_with_the_dicts(self):
        headers, units = {"base": "name A 0"}, {"main": "see base\nprint 1"}
        program = Program(headers, units)
        headers["base"], units["main"] = "x", "name B 0"
        self.assertEqual(([("A", 0)], [], []), view(program, "main"))
        self.assertEqual([NUM], prints_in(program, "main"))

    def test_invalid_words(self):
        rows = [({"Base": ""}, {}, "Base"), ({}, {"if": ""}, "if"), ({"base": ""}, {"base": ""}, "base"), ({"": ""}, {"A": ""}, ""),
                ({"b": "", "c": ""}, {"b": "", "c": ""}, "b"), ({"b": ""}, {"b": "", "a1": ""}, "a1"), ({"x1": ""}, {"a": "", "y_": ""}, "x1"),
                ({"b": "", "Z": ""}, {"b": ""}, "Z"), ({"abcdefghi": ""}, {"z z": ""}, "abcdefghi"), ({"zz": "", "z": ""}, {"zz": "", "see": ""}, "see")]
        for headers, units, word in rows:
            for k in range(2):
                texts = [{key: "" for key in headers}, {key: "" for key in units}]
                if k:
                    texts = [{key: "no line" for key in headers}, {key: "no line" for key in units}]
                error = raised(Program, *texts)
                self.assertEqual((InvalidWord, word), (type(error), error.given))
                error = raised(Program, *texts[::-1])
                self.assertEqual((InvalidWord, word), (type(error), error.given))

    def test_invalid_lines(self):
        rows = [({"b": "x", "c": "x"}, {"a": "x"}, ("b", 1)), ({"b": "", "c": "see b\nx"}, {"a": "x"}, ("c", 2)),
                ({"b": ""}, {"z": "x", "a": "print 1\nprint 2\n"}, ("a", 3)), ({"z": "", "y": ""}, {"b": "", "c": "  const v = 1"}, ("c", 1)),
                ({"z": "x"}, {"a": "x"}, ("z", 1))]
        for headers, units, expected in rows:
            error = raised(Program, headers, units)
            self.assertEqual((InvalidLine, expected), (type(error), error.given))
            error = raised(Program, dict(list(headers.items())[::-1]), dict(list(units.items())[::-1]))
            self.assertEqual(expected, error.given)

    def test_faults_raise_nothing_when_made(self):
        program = Program({"base": "see none"}, {"main": "print x"})
        self.assertEqual((("base",), ("main",)), (program.headers, program.units))


class Faults(unittest.TestCase):
    def check(self, headers, units, expected):
        for turned in (False, True):
            texts = [dict(list(row.items())[::-1]) if turned else dict(row) for row in (headers, units)]
            program = Program(*texts)
            self.assertEqual(expected, faults(program=program))
            self.assertIsNot(faults(program), faults(program))
            faults(program).append(None)
            self.assertEqual(expected, faults(program))
            for word in [*headers, *units, "none", None]:
                for function in [view, prints_in]:
                    if expected:
                        error = raised(function, program, word)
                        self.assertEqual((InvalidProgram, expected), (type(error), error.given))
                        self.assertIsNot(error.given, raised(function, program, word).given)
        return program


class TestFirstLayer(Faults):
    def test_see(self):
        self.check({"base": ""}, {"main": "see base"}, [])
        self.check({"base": ""}, {"main": "see none"}, [("main", 1, "see")])
        self.check({"base": "print 1\nsee base"}, {}, [("base", 2, "see")])
        self.check({}, {"main": "see main"}, [("main", 1, "see")])
        self.check({"base": "see main"}, {"main": "see other", "other": ""}, [("base", 1, "see"), ("main", 1, "see")])
        self.check({"a": "", "b": "see a", "c": "see a\nsee b"}, {"main": "see a\nsee b\nsee c"}, [])

    def test_rings(self):
        self.check({"a": "see b", "b": "see a"}, {"main": "see a"}, [("a", 1, "see"), ("b", 1, "see")])
        self.check({"a": "see b", "b": "see c", "c": "see d\nsee b", "d": ""}, {},
                   [("b", 1, "see"), ("c", 2, "see")])
        self.check({"a": "see b", "b": "see c", "c": "see a"}, {"main": "see b\nsee none"},
                   [("a", 1, "see"), ("b", 1, "see"), ("c", 1, "see"), ("main", 2, "see")])
        self.check({"a": "see a\nsee b", "b": "see b"}, {}, [("a", 1, "see"), ("b", 1, "see")])

    def test_later_layers_are_not_told(self):
        later = lines("name A 0", "name A 1", "for one<Zed>", "  const v = w", "print x")
        self.check({"base": later, "more": "see none"}, {"main": "print none<>.v"}, [("more", 1, "see")])

    def test_order(self):
        self.check({"z": "see none", "b": "see none\nsee other"}, {"a": "see none"},
                   [("a", 1, "see"), ("b", 1, "see"), ("b", 2, "see"), ("z", 1, "see")])


class TestSecondLayer(Faults):
    def test_twice(self):
        self.check({}, {"main": "name A 0\nname A 0"}, [("main", 2, "twice")])
        self.check({}, {"main": "name A 0\nname A 1\nname A 0"}, [("main", 2, "twice"), ("main", 3, "twice")])
        self.check({}, {"main": "gen one<>\ninner gen one<type>"}, [("main", 2, "twice")])
        self.check({"b": "name A 0\ngen one<>", "a": "print 1\nname A 0"}, {"c": "gen one<>", "d": "name A 0"},
                   [("b", 1, "twice"), ("c", 1, "twice"), ("d", 1, "twice")])
        self.check({"z": "name A 0"}, {"a": "name A 0"}, [("a", 1, "twice")])
        self.check({}, {"b": "gen one<>", "a": "gen one<>"}, [("b", 1, "twice")])
        self.check({}, {"main": "name One 0\ngen one<>\ngen two<>"}, [])

    def test_unknown(self):
        base = lines("name A 0", "gen one<type>")
        self.check({"base": base}, {"main": "see base\nfor one<A>\n  const v = one<A>.v\nprint one<A>.v"}, [])
        self.check({"base": base}, {"main": "for one<A>\n  const v = one<A>.v\nprint one<A>.v"},
                   [("main", 1, "unknown"), ("main", 2, "unknown"), ("main", 3, "unknown")])
        self.check({"base": base}, {"main": "see base\nfor one<Zed>\n  fun go() = 1+two<>.v\nprint go(one<B<A>>.go(two<>.v))"},
                   [("main", 2, "unknown"), ("main", 3, "unknown"), ("main", 4, "unknown")])
        self.check({"base": base}, {"main": "see base\nprint if x then one<?t>.v else one<(A,Zed)>.v"}, [("main", 2, "unknown")])
        self.check({"base": base}, {"main": "see base\nprint go(1,one<A>.go(1,one<P<A,Zed>>.v))\nprint #n+x"}, [("main", 2, "unknown")])

    def test_own_lines_and_later_ones_are_seen(self):
        self.check({}, {"main": "print one<A>.v\nfor one<A>\n  const v = 1\nname A 0\ngen one<type>"}, [])
        self.check({"a": "name A 0", "b": "see a\ngen one<type>", "c": "see b"}, {"main": "see c\nprint one<A>.v"}, [])

    def test_texts_that_are_not_seen(self):
        self.check({"a": "name A 0", "b": "gen one<type>"}, {"main": "see b\nprint one<A>.v"}, [("main", 2, "unknown")])
        self.check({"a": "see b\nname A 0", "b": "gen one<type>\nfor one<A>"}, {}, [("b", 2, "unknown")])
        self.check({"a": "name A 0"}, {"m": "name B 0", "n": "see a\ngen one<type>\nprint one<B>.v"}, [("n", 3, "unknown")])

    def test_each_once(self):
        self.check({}, {"main": "print none<Zed,Zod>.v+none<Zed>.v*some<>.v"}, [("main", 1, "unknown")])

    def test_both_and_no_later_ones(self):
        self.check({"base": "name A 0\nprint x"}, {"main": "see base\nname A 1\ngen one<>\nprint one<A<A>>.v\nfor two<>"},
                   [("main", 2, "twice"), ("main", 5, "unknown")])
        self.check({}, {"a": "inner gen one<>\nprint one<3>.v", "b": "gen one<>"}, [("b", 1, "twice")])


class TestThirdLayer(Faults):
    def base(self, *rows):
        return {"base": lines("name A 0", "name B 1", "name P 2", "gen one<type>", "gen all<type,num,types,pile>", "inner gen hid<num>",
                              "gen none<>", *rows)}

    def check_line(self, line, *whats):
        """Check the faults of a line of a unit, and those of a definition's first line and member."""
        self.check(self.base(), {"main": "see base\n" + line}, [("main", 2, what) for what in whats])

    def test_count(self):
        for text, whats in [("one<A>", []), ("one<B<A>>", []), ("one<P<A,B<A>>>", []), ("one<A<A>>", ["count"]), ("one<B>", ["count"]),
                            ("one<P<A>>", ["count"]), ("one<P<A,A,A>>", ["count"]), ("one<P<A,B>>", ["count"]), ("one<>", ["count"]),
                            ("one<A,A>", ["count"]), ("none<>", []), ("none<A>", ["count"]), ("one<P<B<A<A>>,A>>", ["count"]),
                            ("all<A,3,(),()>", []), ("all<A,3,()>", ["count"]), ("all<A,3,(B),()>", ["count"]), ("one<3,3>", ["count"])]:
            self.check_line(f"for {text}", *whats)
            self.check_line(f"print {text}.v", *whats)
            self.check_line(f"print 1+{text}.go(2,x)" if whats else f"print 1+{text}.go(2,3)", *whats)

    def test_kind(self):
        for text, whats in [("one<3>", ["kind"]), ("one<()>", ["kind"]), ("all<3,A,(),()>", ["kind"]), ("all<A,3,(),3>", ["kind"]),
                            ("all<A,3,A,()>", ["kind"]), ("all<A,(),(),()>", ["kind"]), ("all<A,3,(A,A),(B<A>)>", []),
                            ("all<B,(),(),()>", ["count", "kind"]), ("all<3,3,3>", ["count"])]:
            self.check_line(f"for {text}", *whats)
            self.check_line(f"print {text}.v", *whats)
        self.check_line("for all<?t,#n,(?t,..?r),(..?r)>")

    def test_two_kinds_in_a_line(self):
        for text in ["all<?t,#t,(),()>", "all<A,3,(?t),(..?t)>", "all<A,#n,(..?n),()>", "all<B<?t>,3,(..?t),()>"]:
            self.check_line(f"for {text}", "kind")
            self.check_line(f"print {text}.v", "kind")
        self.check_line("print #t+one<?t>.v", "kind")
        self.check_line("print all<A,3,(..?t),()>.v+one<?t>.v", "kind")
        self.check_line("for all<?t,#n,(..?r),(..?r)>\n  const v = #n+one<?t>.v+all<?t,#n,(..?r),(A,..?r)>.v")

    def test_two_kinds_with_the_first_line(self):
        def check(first, member, expected):
            self.check(self.base(), {"main": lines("see base", first, "  const u = 1", member)}, expected)
        check("for one<?t>", "  const v = #t", [("main", 4, "kind")])
        check("for one<?t>", "  fun go() = #t", [("main", 4, "kind")])
        check("for all<?t,#n,(),()>", "  const v = one<?n>.v", [("main", 4, "kind")])
        check("for all<?t,#n,(),(..?r)>", "  const v = all<?t,#n,(..?t),(..?r)>.v", [("main", 4, "kind")])
        check("for all<?t,#t,(),()>", "  const v = one<?t>.v", [("main", 2, "kind"), ("main", 4, "kind")])
        check("for all<?t,#t,(),()>", "  const v = one<?s>.v", [("main", 2, "kind")])
        # Variables of one definition mean nothing to another one.
        self.check(self.base(), {"main": "see base\nfor one<?t>\n  const v = 1\nfor all<A,#t,(),()>\n  const v = #t"}, [])
        self.check(self.base(), {"main": "see base\nfor one<?t>\n  const v = 1\nprint one<A>.v\nfor none<>\n  const v = 1"}, [])

    def test_print(self):
        self.check(self.base("print 1", "for none<>", "print 2"), {"main": "print 1"}, [("base", 8, "print"), ("base", 10, "print")])
        self.check(self.base("print one<A,A>.v"), {}, [("base", 8, "count"), ("base", 8, "print")])

    def test_inner(self):
        self.check(self.base("for hid<0>", "  const v = hid<1>.v", "for none<>", "  const v = hid<3>.v"), {}, [])
        self.check_line("for hid<0>", "inner")
        self.check_line("print hid<0>.v", "inner")
        self.check_line("print 1+hid<0>.go(2)", "inner")
        self.check_line("print hid<A>.v", "inner", "kind")
        self.check_line("print hid<B,B>.v", "count", "inner")
        self.check(self.base(), {"main": "see base\nfor none<>\n  const v = hid<1>.v"}, [("main", 3, "inner")])
        self.check({}, {"main": "inner gen own<>\nfor own<>"}, [("main", 2, "inner")])

    def test_all_texts_and_no_later_layer(self):
        self.check(self.base("for none<>", "  const v = w"), {"a": "see base\nprint x", "b": "see base\nprint one<3>.v", "c": "print #n"},
                   [("b", 2, "kind")])

    def test_each_once(self):
        self.check_line("print one<3>.v+one<()>.v*one<P>.v+one<>.v", "count", "kind")

    def test_order(self):
        self.check(self.base("print one<>.v"), {"a": "see base\nfor one<3>\nfor hid<A,A>"},
                   [("a", 2, "kind"), ("a", 3, "count"), ("a", 3, "inner"), ("base", 8, "count"), ("base", 8, "print")])


class TestFourthLayer(Faults):
    BASE = lines("name A 0", "name B 1", "gen one<type>", "gen two<num,types>", "gen none<>")

    def check_unit(self, rows, expected):
        self.check({"base": self.BASE}, {"main": lines("see base", *rows)}, [("main", number, what) for number, what in expected])

    def test_variable(self):
        self.check_unit(["print #n"], [(2, "variable")])
        self.check_unit(["print one<?t>.v", "print two<3,(A,..?r)>.go(1)", "print one<A>.v"], [(2, "variable"), (3, "variable")])
        self.check_unit(["for one<?t>", "  const v = one<?t>.v", "  const w = one<?s>.v", "  fun go() = #n", "  const z = two<#n,(..?r)>.v"],
                        [(4, "variable"), (5, "variable"), (6, "variable")])
        self.check_unit(["for two<2*#n+1,(?x,..?r)>", "  const v = #n+one<?x>.v+two<#n,(?x,?x,..?r)>.v"], [])
        self.check_unit(["for one<?t>", "  const v = 1", "for one<B<?s>>", "  const v = one<?t>.v", "print 1"], [(5, "variable")])

    def test_own_names(self):
        self.check_unit(["print x"], [(2, "own")])
        self.check_unit(["print 1+go(2)"], [(2, "own")])
        self.check_unit(["for none<>", "  const x = 1", "  fun go(x) = 1", "print x", "print go(1)"], [(5, "own"), (6, "own")])
        self.check_unit(["for none<>", "  fun go(x,y) = x+y+v", "  const v = 1"], [])
        self.check_unit(["for none<>", "  fun go(x) = y", "  fun to(y) = x", "  const v = x"], [(3, "own"), (4, "own"), (5, "own")])
        self.check_unit(["for none<>", "  fun go() = 1", "  const v = go"], [(4, "own")])
        self.check_unit(["for one<A>", "  const v = 1", "for one<B<A>>", "  const w = v"], [(5, "own")])
        self.check_unit(["for none<>", "  const v = w", "  const w = 1", "  fun go(v) = v+w"], [])
        self.check_unit(["for none<>", "  fun go(x) = one<A>.go(one<A>.to(1,y))"], [(3, "own")])

    def test_own_functions(self):
        self.check_unit(["for none<>", "  fun go(x) = go(x)+to()", "  fun to() = go(to())", "  const v = go(1)"], [])
        self.check_unit(["for none<>", "  fun go(x) = 1", "  const v = go()"], [(4, "own")])
        self.check_unit(["for none<>", "  fun go(x) = 1", "  const v = go(1,2)"], [(4, "own")])
        self.check_unit(["for none<>", "  const go = 1", "  const v = go()"], [(4, "own")])
        self.check_unit(["for none<>", "  fun to(x) = 1", "  const v = go(1)", "  fun up(x) = up(to(1))+to(up(2))+go(3)"], [(4, "own"), (5, "own")])
        self.check_unit(["for none<>", "  fun go(to) = to()"], [(3, "own")])
        self.check_unit(["for none<>", "  const v = if 1 then 2 else go(3)"], [(3, "own")])

    def test_round(self):
        self.check_unit(["for none<>", "  const v = v"], [(3, "round")])
        self.check_unit(["for none<>", "  const v = 1+2*v"], [(3, "round")])
        self.check_unit(["for none<>", "  const v = w", "  const w = u+1", "  const u = v*2"], [(3, "round"), (4, "round"), (5, "round")])
        self.check_unit(["for none<>", "  const v = w", "  const w = w", "  const u = v"], [(4, "round")])
        self.check_unit(["for none<>", "  const v = w+u", "  const w = u", "  const u = 1"], [])
        self.check_unit(["for none<>", "  const v = go(1)", "  fun go(x) = v"], [])
        self.check_unit(["for none<>", "  fun go(v) = v", "  const v = go(w)", "  const w = 1"], [])
        self.check_unit(["for none<>", "  const v = none<>.v"], [])
        # These constants have words that generics have, too.
        self.check_unit(["for none<>", "  const none = none<>.none"], [])
        self.check_unit(["for none<>", "  const one = two+1", "  const two = one<A>.v"], [])
        self.check_unit(["for none<>", "  const one = two+1", "  const two = one<A>.v+one"], [(3, "round"), (4, "round")])
        self.check_unit(["for one<A>", "  const v = w", "  const w = 1", "for one<B<A>>", "  const w = v", "  const v = 1"], [])
        self.check_unit(["for none<>", "  const v = go(if 1 then w else 2)", "  fun go(x) = x", "  const w = one<A>.go(v)"],
                        [(3, "round"), (5, "round")])
        self.check_unit(["for none<>", "  const v = v+x", "  const w = #n+w"], [(3, "own"), (3, "round"), (4, "round"), (4, "variable")])

    def test_twice_in_a_text(self):
        self.check_unit(["for one<?t>", "for one<?s>"], [(3, "twice")])
        self.check_unit(["for one<?t>", "  const v = 1", "for one<B<?s>>", "for one<?x>", "for one<?y>"], [(5, "twice"), (6, "twice")])
        self.check_unit(["for two<#n,(..?r)>", "for two<#m,(..?n)>"], [(3, "twice")])
        self.check_unit(["for two<#n,(..?r)>", "for two<#n,()>", "for two<2*#n,(..?r)>", "for one<A>"], [])
        self.check_unit(["for none<>", "for none<>"], [(3, "twice")])

    def test_twice_in_a_view(self):
        base = self.BASE + "\nfor one<?t>"
        row = "see base\nfor one<B<?t>>"
        self.check({"base": base}, {"main": "see base\nfor one<?x>"}, [("main", 2, "twice")])
        other = "see base\nfor one<A>\nfor one<B<?s>>"
        texts = {"base": base, "left": row, "right": other}
        self.check(texts, {}, [])
        self.check(texts, {"main": "see left\nsee right"}, [("main", 0, "twice")])
        self.check(texts, {"a": "see left", "main": "see right\nsee left", "z": "see left\nsee right\nprint 1"},
                   [("main", 0, "twice"), ("z", 0, "twice")])
        self.check({**texts, "both": "see left\nsee right"}, {"main": "see both"}, [("both", 0, "twice")])
        self.check({**texts, "both": "see left\nsee right"}, {"main": "see both\nsee left\nsee right"}, [("both", 0, "twice")])
        self.check({**texts, "both": "see left\nsee right", "far": "see both"}, {"main": "see far\nsee right"}, [("both", 0, "twice")])
        self.check({**texts, "both": "see left\nfor one<B<?q>>"}, {"main": "see both"}, [("both", 2, "twice")])
        self.check({**texts, "both": "see left\nfor one<B<?q>>"}, {"main": "see right\nsee both"},
                   [("both", 2, "twice"), ("main", 0, "twice")])

    def test_twice_with_own_lines(self):
        base = self.BASE + "\nfor one<?t>\nfor none<>"
        self.check({"base": base}, {"main": "see base\nfor one<?x>\nfor none<>\nfor one<A>\nfor one<A>"},
                   [("main", 2, "twice"), ("main", 3, "twice"), ("main", 5, "twice")])
        self.check({"base": base + "\nfor one<?s>"}, {"main": "see base"}, [("base", 8, "twice")])
        texts = {"base": base, "left": "see base\nfor one<B<?t>>", "right": "see base\nfor one<B<?s>>"}
        self.check(texts, {"main": "see left\nsee right\nfor one<B<?q>>"}, [("main", 0, "twice"), ("main", 3, "twice")])
        self.check(texts, {"main": "see left\nsee right\nfor one<A>\nfor one<B<?q>>\nfor one<B<?r>>"}, [("main", 0, "twice"), ("main", 4, "twice"), ("main", 5, "twice")])
        self.check({"base": base + "\nfor one<?s>"}, {"main": "see base\nfor one<?u>"}, [("base", 8, "twice"), ("main", 2, "twice")])

    def test_unlike_views(self):
        texts = {"base": self.BASE, "left": "see base\nfor one<A>", "right": "see base\nfor one<A>"}
        self.check(texts, {"a": "see left", "b": "see right"}, [])

    def test_order_and_each_once(self):
        self.check({"base": self.BASE + "\nfor none<>\n  const v = x+y+#n+#m+go()"}, {"a": "see base\nprint x+go(#n)\nprint one<?t>.v"},
                   [("a", 2, "own"), ("a", 2, "variable"), ("a", 3, "variable"), ("base", 7, "own"), ("base", 7, "variable")])


class TestViews(unittest.TestCase):
    def setUp(self):
        self.program = Program({
            "base": lines("name P 2", "name A 0", "inner gen two<pile>", "gen one<type,num>", "for one<?t,#n>", "  const v = 1",
                          "for one<A,0>", "for two<(..?q)>"),
            "left": lines("see base", "name C 1", "for one<C<?t>,3>", "  fun go(x) = x"),
            "right": lines("see base", "gen alone<>", "for alone<>", "  const w = one<A,3>.v", "for one<A,3>"),
            "top": lines("see right", "see left", "name D 0"),
        }, {
            "all": lines("see top", "name E 0", "for one<E,1>", "print 1", "print one<E,2>.v"),
            "some": lines("see left", "see base", "print 2"),
            "zero": "",
        })

    def test_views(self):
        one, two, alone = ("one", ("type", "num"), False), ("two", ("pile",), True), ("alone", (), False)
        names, generics, definitions = view(self.program, "all")
        self.assertEqual([("A", 0), ("C", 1), ("D", 0), ("E", 0), ("P", 2)], names)
        self.assertEqual([alone, one, two], generics)
        marks = [("all", 0), ("base", 0), ("base", 1), ("base", 2), ("left", 0), ("right", 0), ("right", 1)]
        self.assertEqual(marks, [row[0] for row in definitions])
        self.assertEqual(["one", "one", "one", "two", "one", "alone", "one"], [row[1] for row in definitions])
        pattern = (type_of("C", ("var", "t")), 3)
        self.assertEqual((("left", 0), "one", pattern, (("fun", "go", ("x",), ("name", "x")),)), definitions[4])
        self.assertEqual((("base", 0), "one", (("var", "t"), ("form", 1, "n", 0)), (("const", "v", NUM),)), definitions[1])
        self.assertEqual((("base", 2), "two", (("list", (), "q"),), ()), definitions[3])

    def test_other_views(self):
        some = view(program=self.program, word="some")
        self.assertEqual(([("A", 0), ("C", 1), ("P", 2)], ["one", "two"], [("base", 0), ("base", 1), ("base", 2), ("left", 0)]),
                         (some[0], [row[0] for row in some[1]], [row[0] for row in some[2]]))
        self.assertEqual(([], [], []), view(self.program, "zero"))
        self.assertEqual([("A", 0), ("P", 2)], view(self.program, "base")[0])
        self.assertEqual(view(self.program, "left"), view(self.program, "some"))
        self.assertEqual([("A", 0), ("C", 1), ("D", 0), ("P", 2)], view(self.program, "top")[0])
        self.assertEqual((tuple, [list] * 3), (type(some), [type(row) for row in some]))

    def test_prints(self):
        use = ("const", "one", (type_of("E"), 2), "v")
        self.assertEqual([NUM, use], prints_in(program=self.program, word="all"))
        self.assertEqual([("num", 2)], prints_in(self.program, "some"))
        for word in ["zero", "base", "left", "right", "top"]:
            self.assertEqual([], prints_in(self.program, word))

    def test_new_lists_on_each_call(self):
        for word in ["all", "base"]:
            expected = view(self.program, word)
            for row in view(self.program, word):
                row.clear()
            prints_in(self.program, word).append(3)
            self.assertEqual(expected, view(self.program, word))
            self.assertNotIn(3, prints_in(self.program, word))

    def test_invalid_words(self):
        for word in ODD_VALUES + ["none", "Base", "", "base ", ["base"], ("base",), 3, b"base"]:
            for function in [view, prints_in]:
                error = raised(function, self.program, word)
                self.assertIs(InvalidWord, type(error))
                self.assertIs(word, error.given)

    def test_invalid_programs_come_first(self):
        program = Program({"base": "see none\nsee other"}, {})
        for word in ["base", "none", None, 3]:
            for function in [view, prints_in]:
                error = raised(function, program, word)
                self.assertEqual((InvalidProgram, [("base", 1, "see"), ("base", 2, "see")]), (type(error), error.given))

    def test_names_and_generics_ascend(self):
        rows = [f"name N{chr(97 + k)} {k % 4}" for k in range(11, -1, -1)]
        program = Program({"z": lines(*rows), "a": "name Nz 1\ngen b<>\ngen aa<>\ngen a<>"}, {"m": "see a\nsee z"})
        names, generics, _ = view(program, "m")
        self.assertEqual(sorted(names), names)
        self.assertEqual(13, len(names))
        self.assertEqual(["a", "aa", "b"], [row[0] for row in generics])


if __name__ == "__main__":
    unittest.main()
