"""Point [24]: texts of terms."""

import random
import unittest

from mostspecial.errors import InvalidKind, InvalidKinds, InvalidText
from mostspecial.terms import Names
from mostspecial.termtexts import read_term, read_terms, write_term, write_terms
from tests.tools import NAMES, ODD_VALUES, NarrowStack, deep, raised, random_pattern, type_of, wide

A, T = type_of("A"), ("var", "t")
TEXTS = [
    ("type", "A", A), ("type", "?t", T), ("type", "Zed", type_of("Zed")), ("type", "B<?t>", type_of("B", T)),
    ("type", "P<A,B<?if>>", type_of("P", A, type_of("B", ("var", "if")))), ("type", "T<A,?t,A>", type_of("T", A, T, A)),
    ("type", "P<P<A,?t>,P<?t,A>>", type_of("P", type_of("P", A, T), type_of("P", T, A))),
    ("num", "0", 0), ("num", "10", 10), ("num", "1" + "0" * 24, 10 ** 24), ("num", "#n", ("form", 1, "n", 0)),
    ("num", "2*#n", ("form", 2, "n", 0)), ("num", "#n12+1", ("form", 1, "n12", 1)),
    ("num", "2*#n+1", ("form", 2, "n", 1)), ("num", "10*#n+20", ("form", 10, "n", 20)),
    ("num", f"{10 ** 24}*#n+{10 ** 24}", ("form", 10 ** 24, "n", 10 ** 24)),
    ("types", "()", ("list", (), None)), ("types", "(..?r)", ("list", (), "r")), ("types", "(A)", ("list", (A,), None)),
    ("types", "(A,?t)", ("list", (A, T), None)), ("types", "(A,..?r)", ("list", (A,), "r")),
    ("types", "(P<A,?t>,?t,..?r1)", ("list", (type_of("P", A, T), T), "r1")),
]
WRONG = {
    "type": """ a b ?T ?1 ? ?abcde ?t> A> <A> A< A<> A<A> B B<> B<A B<A,> B<,A> B<A,A> B<A>> B<A>A B<A) B<A; B<A( B<A. B<?t) P<A,A) P<A,B<A>) B<B<A)> B<(A)> B<3> B<#n>
        Zed<A> P<A> P<A,A,A> P<A;A> P(A,A) AA1 Abcdefghi A,A ?t<A> B<?t<A>> 3 #n () (A) B<..?r> ..?r A. b<A> P<?t,?T>""",
    "num": """01 00 -1 +1 1+1 1* 1*# 1*#n 0*#n 2*n 2#n 2*#n+ 2*#n+0 #n+0 #n+01 #n-1 #n+-1 # #N #1 #abcde 02*#n 2**#n
        2*#n+1+1 #n*2 1+#n #n+#n 2*3 1_0 1.0 1e3 ?t A () \u0663 #\u00e9 #n+\u0663 1000000000000000000000001
        1000000000000000000000001*#n #n+1000000000000000000000001 00000000000000000000000000001""",
    "types": """( ) (A (A,) (,A) (A,,A) (A;A) (..?r,A) (A,..?r,B) (..?r,..?q) (..?R) (..?) (..r) (.?r) (?r..) (A..?r) (A,..?r
        ()) (()) ((A)) (3) (#n) (B) (Zed<A>) A ?t 3 (?t,..?t) (B<?r>,..?r) (A,..?abcde) []
        (..?r, (..?r> (A,..?r( (A,..?r, (A, (A> (A] ((..?r""",
}


class TestTexts(unittest.TestCase):
    def test_written_and_read(self):
        for kind, text, term in TEXTS:
            self.assertEqual(text, write_term(term))
            self.assertEqual(term, read_term(text, kind, NAMES))
            self.assertEqual(text, write_terms((term,)))
            self.assertEqual((term,), read_terms(text, [kind], NAMES))
            for other in ["type", "num", "types"]:
                if other != kind:
                    self.assertEqual(text, raised(read_term, text, other, NAMES).given)

    def test_by_name(self):
        self.assertEqual("?t", write_term(term=T))
        self.assertEqual("?t,A", write_terms(terms=(T, A)))
        self.assertEqual(T, read_term(text="?t", kind="type", names=NAMES))
        self.assertEqual((T,), read_terms(text="?t", kinds=("type",), names=NAMES))

    def test_several(self):
        kinds = ("type", "pile", "num", "types")
        rows = (type_of("P", A, T), ("list", (A, A), "r"), ("form", 3, "n", 4), ("list", (), "r"))
        text = "P<A,?t>,(A,A,..?r),3*#n+4,(..?r)"
        self.assertEqual(text, write_terms(rows))
        self.assertEqual(rows, read_terms(text, kinds, NAMES))
        self.assertEqual(rows, read_terms(text, list(kinds), NAMES))
        self.assertEqual("", write_terms(()))
        self.assertEqual((), read_terms("", [], NAMES))

    def test_wrong_texts(self):
        for kind, texts in WRONG.items():
            rows = texts.split()
            spaced = [" " + text for _, text, _ in TEXTS] + [text + " " for _, text, _ in TEXTS]
            for text in rows + spaced + ["", " ", "P<A, A>", "P<A ,A>", "(A, A)", "#n +1", "A\n", "\n", "%", "\u00e9"]:
                for function, asked in [(read_term, kind), (read_terms, (kind,))]:
                    error = raised(function, text, asked, NAMES)
                    self.assertIs(InvalidText, type(error), text)
                    self.assertIs(text, error.given)

    def test_wrong_texts_of_several(self):
        rows = [("A", []), ("", ["type"]), ("A", ["type", "type"]), ("A,A", ["type"]), ("A,", ["type"]), (",A", ["type"]),
                ("A,,A", ["type", "type"]), ("A,A,", ["type", "type"]), ("3,A", ["type", "num"]), ("?t,#t", ["type", "num"]),
                ("?t,(..?t)", ["type", "types"]), ("#t,(..?t)", ["num", "pile"]), ("(?t),(..?t)", ["pile", "types"]),
                ("A;A", ["type", "type"]), ("A, A", ["type", "type"]), ("(A),(A)", ["types"])]
        for text, kinds in rows:
            error = raised(read_terms, text, kinds, NAMES)
            self.assertEqual((InvalidText, text), (type(error), error.given))

    def test_values_that_are_no_strings(self):
        for value in ODD_VALUES + [b"A", 3]:
            if isinstance(value, str):
                continue
            for function, asked in [(read_term, "type"), (read_terms, ["type"]), (read_terms, [])]:
                error = raised(function, value, asked, NAMES)
                self.assertIs(InvalidText, type(error))
                self.assertIs(value, error.given)

    def test_kinds_ahead_of_texts(self):
        for kind in ["pile", "", None, 3, True, ["type"], {}]:
            error = raised(read_term, None, kind, NAMES)
            self.assertIs(InvalidKind, type(error))
            self.assertIs(kind, error.given)
        for kinds in ["type", None, ["Type"], ["type"] * 5, {"type": 0}, [None], 3]:
            for text in ["", "A", 3, None]:
                error = raised(read_terms, text, kinds, NAMES)
                self.assertIs(InvalidKinds, type(error))
                self.assertIs(kinds, error.given)

    def test_limits(self):
        with NarrowStack():
            for levels, right in [(199, True), (200, False), (298, False)]:
                for inside in [A, T]:
                    term = deep(levels, inside)
                    text = "B<" * levels + write_term(inside) + ">" * levels
                    self.assertEqual(text, write_term(term))
                    if right:
                        read = read_term(text, "type", NAMES)
                        self.assertEqual(text, write_term(read))
                    else:
                        self.assertIs(text, raised(read_term, text, "type", NAMES).given)
            for text in ["B<" * 300, "(" * 300, "B<" * 300 + "A" + ">" * 300, "(" * 300 + ")" * 300, "P<A," * 300 + "A"]:
                self.assertIs(text, raised(read_term, text, "type", NAMES).given)
                self.assertIs(text, raised(read_term, text, "types", NAMES).given)
        for signs, right in [(4000, True), (4001, False), (9999, False)]:
            text = "(" + ",".join(["A"] * signs) + ")"
            self.assertEqual(text, write_term(wide(signs)))
            if right:
                self.assertEqual(wide(signs), read_term(text, "types", NAMES))
            else:
                self.assertIs(text, raised(read_term, text, "types", NAMES).given)
        half = "(" + ",".join(["A"] * 2000) + ")"
        self.assertEqual(2, len(read_terms(half + "," + half, ["types", "pile"], NAMES)))
        self.assertIs(InvalidText, type(raised(read_terms, half + "," + half + ",3", ["types", "pile", "num"], NAMES)))
        text = "9" * 300
        self.assertIs(text, raised(read_term, text, "num", NAMES).given)

    def test_numbers_of_args(self):
        names = Names([("A", 1), ("B", 0)])
        self.assertEqual(type_of("A", type_of("B")), read_term("A<B>", "type", names))
        for text in ["A", "B<A>", "A<A>", "A<B,B>"]:
            self.assertIs(text, raised(read_term, text, "type", names).given)

    def test_random_ones_are_read_back(self):
        chance = random.Random(24)
        for _ in range(500):
            kinds = [chance.choice(["type", "num", "types"]) for _ in range(chance.randrange(5))]
            rows = random_pattern(chance, kinds)
            self.assertEqual(rows, read_terms(write_terms(rows), kinds, NAMES))


if __name__ == "__main__":
    unittest.main()
