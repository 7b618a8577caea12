"""Points [21] to [23]: words, names and terms."""

import unittest

from mostspecial.errors import InvalidKind, InvalidKinds, InvalidNames
from mostspecial.terms import Names, is_closed, is_pattern, is_term, is_type_name, is_use, is_variable, is_word
from mostspecial.terms import variables
from tests.tools import NAMES, ODD_VALUES, NarrowStack, deep, raised, terms, told, type_of, wide

GREATEST = 10 ** 24
A = type_of("A")


class TestWords(unittest.TestCase):
    def test_words(self):
        for value in ["a", "z", "size", "abcdefgh", "zzzzzzzz", "ifs", "nam", "of", "type", "num", "pile"]:
            self.assertIs(True, is_word(value), value)
        wrong = ["", "abcdefghi", "A", "aB", "a1", "1", "a_", "a b", " a", "a\n", "\u00e9", "a\u00e9", "\u0131", "-"]
        for value in wrong + [None, 1, True, ["a"], ("a",), b"a", {"a": 1}]:
            self.assertIs(False, is_word(value), value)

    def test_words_that_are_none(self):
        for value in "see name gen inner for const fun print if then else".split():
            self.assertIs(False, is_word(value), value)

    def test_type_names(self):
        for value in ["A", "Z", "Abcdefgh", "ABCDEFGH", "Int", "If"]:
            self.assertIs(True, is_type_name(value), value)
        wrong = ["", "a", "aB", "Abcdefghi", "A1", "1A", "A_", "A b", "A\n", "\u00c9", "A\u00e9", "?A"]
        for value in wrong + [None, 0, False, ["A"], ("A",), b"A"]:
            self.assertIs(False, is_type_name(value), value)

    def test_variables(self):
        for value in ["a", "z", "abcd", "a123", "z9", "if", "for", "see"]:
            self.assertIs(True, is_variable(value), value)
        wrong = ["", "abcde", "a1234", "A", "1", "1a", "aB", "a_", "a b", "a\n", "a\u0663", "\u00b2", "a\u00b2"]
        for value in wrong + [None, 0, True, ["a"], ("a",)]:
            self.assertIs(False, is_variable(value), value)


class TestNames(unittest.TestCase):
    def test_told(self):
        names = Names([("P", 2), ("A", 0), ("Box", 1), ("T", 3), ("AB", 1)])
        self.assertEqual((("A", 0), ("AB", 1), ("Box", 1), ("P", 2), ("T", 3)), names.told)
        counts = [names.count_of(name) for name in ["P", "A", "Box", "T", "Zed", "p"]]
        self.assertEqual([2, 0, 1, 3, 0, 0], counts)
        self.assertEqual(names.told, Names(names=tuple(names.told)).told)
        self.assertEqual((), Names([]).told)
        self.assertEqual(1, names.count_of(name="Box"))

    def test_limits(self):
        many = [("N" + chr(97 + k), k % 4) for k in range(25)]
        self.assertEqual(24, len(Names(many[:24]).told))
        self.assertEqual(many[:24], sorted(Names(tuple(many[:24])).told))
        self.assertIs(many, raised(Names, many).given)

    def test_wrong(self):
        rows = [[("A", -1)], [("A", 4)], [("A", True)], [("A", False)], [("A", 0), ("A", 1)], [("A", 0), ("A", 0)],
                [["A", 0]], [("a", 0)], [("A",)], [("A", 0, 0)], [("A", None)], [(0, "A")], [("A", "0")], ["A0"],
                None, 3, "A", {"A": 0}, {}, (("A", 0), None), [()], True, ["A", 0], NAMES, "", [[]], [(["A"], 0)]]
        for given in rows:
            error = raised(Names, given)
            self.assertIs(InvalidNames, type(error))
            self.assertIs(given, error.given)

    def test_list_is_not_kept(self):
        rows = [("B", 1), ("A", 0)]
        names = Names(rows)
        rows.append(("C", 2))
        rows[0] = ("B", 3)
        self.assertEqual((("A", 0), ("B", 1)), names.told)
        self.assertEqual([1, 0], [names.count_of("B"), names.count_of("C")])


class TestTerms(unittest.TestCase):
    def test_kinds_of_terms(self):
        rows = {
            "type": [A, ("var", "t"), type_of("Zed"), type_of("P", A, ("var", "t")), type_of("T", A, A, A)],
            "num": [0, 7, GREATEST, ("form", 1, "n", 0), ("form", GREATEST, "n", GREATEST)],
            "types": [("list", (), None), ("list", (), "r"), ("list", (A, ("var", "t")), "r"), ("list", (A,), None)],
        }
        for kind, values in rows.items():
            for other in rows:
                for value in values:
                    self.assertIs(kind == other, is_term(value, other, NAMES), (value, other))

    def test_no_terms(self):
        for value in ODD_VALUES + [GREATEST + 1, ("form", GREATEST + 1, "n", 0), ("form", 1, "n", GREATEST + 1)]:
            for kind in ["type", "num", "types"]:
                self.assertIs(False, is_term(value, kind, NAMES), (value, kind))

    def test_numbers_of_args(self):
        for name, count in [("A", 0), ("B", 1), ("P", 2), ("T", 3), ("Zed", 0)]:
            for many in range(5):
                value = type_of(name, *[("var", "t")] * many)
                self.assertIs(many == count, is_term(value, "type", NAMES), value)
                self.assertIs(many == count, is_term(("list", (value,), None), "types", NAMES), value)

    def test_lists_and_bools_within(self):
        for value in [["type", "A", ()], ("type", "B", [A]), ("type", "B", (["type", "A", ()],)), ("type", "A", [])]:
            self.assertIs(False, is_term(value, "type", NAMES))
        for value in [True, False, ("form", True, "n", 0), ("form", 1, "n", False), ["form", 1, "n", 0]]:
            self.assertIs(False, is_term(value, "num", NAMES))
        for value in [("list", [A], None), ["list", (A,), None], ("list", (A,), False), ("list", (A, ["var", "t"]), "r")]:
            self.assertIs(False, is_term(value, "types", NAMES))

    def test_signs(self):
        for signs, right in [(4000, True), (4001, False), (5000, False)]:
            self.assertIs(right, is_term(wide(signs), "types", NAMES))
            shorter = ("list", wide(signs - 1)[1], "r")
            self.assertIs(right, is_term(shorter, "types", NAMES))
            self.assertIs(right, is_term(balanced(signs), "type", NAMES))
        halves = (wide(2000), wide(2000))
        self.assertTrue(is_use(halves, ["types", "types"], NAMES))
        self.assertFalse(is_use((wide(2000), wide(2001)), ["types", "types"], NAMES))
        self.assertFalse(is_use((*halves, 0), ["types", "types", "num"], NAMES))
        self.assertTrue(is_use((*halves, ("list", (), None)), ["types", "types", "pile"], NAMES))

    def test_depth(self):
        with NarrowStack():
            for levels, right in [(199, True), (200, False), (299, False)]:
                for inside in [A, ("var", "t")]:
                    value = deep(levels, inside)
                    self.assertIs(right, is_term(value, "type", NAMES))
                    self.assertIs(right, is_term(("list", (A, value), None), "types", NAMES))
                    self.assertIs(right and inside == A, is_use((value,), ["type"], NAMES))
            self.assertTrue(is_closed(deep(299)))
            self.assertFalse(is_closed(deep(299, ("var", "t"))))
            self.assertEqual([("t", "type")], variables((deep(299, ("var", "t")),)))

    def test_many_odd_terms_beyond_the_limits(self):
        with NarrowStack():
            value = ("list", tuple(deep(299) for _ in range(16)), None)
            self.assertFalse(is_term(value, "types", NAMES))
            self.assertFalse(is_pattern((value, 0), ("types", "num"), NAMES))
            self.assertFalse(is_use((deep(299, 3),), ("type",), NAMES))
            self.assertFalse(is_use(deep(299), ("type",), NAMES))

    def test_one_kind_for_each_variable(self):
        for value in [("list", (("var", "t"),), "t"), ("list", (type_of("B", ("var", "r")),), "r")]:
            self.assertFalse(is_term(value, "types", NAMES))
        both = (("var", "t"), ("form", 1, "t", 0))
        self.assertFalse(is_pattern(both, ["type", "num"], NAMES))
        self.assertFalse(is_pattern((("list", (), "t"), ("form", 1, "t", 0)), ["pile", "num"], NAMES))
        self.assertTrue(is_pattern((("list", (), "r"), ("list", (), "r")), ["pile", "types"], NAMES))
        self.assertTrue(is_pattern((("var", "t"), ("var", "t")), ["type", "type"], NAMES))

    def test_patterns_and_uses(self):
        kinds = ["type", "num", "types", "pile"]
        use = terms("B<A>,3,(A),()", "type num types pile")
        pattern = terms("B<?t>,2*#n+1,(?t,..?r),(..?s)", "type num types pile")
        self.assertEqual((True, True), (is_pattern(use, kinds, NAMES), is_use(use, kinds, NAMES)))
        self.assertEqual((True, False), (is_pattern(pattern, kinds, NAMES), is_use(pattern, kinds, NAMES)))
        self.assertTrue(is_pattern(value=pattern, kinds=tuple(kinds), names=NAMES))
        for k in range(4):
            for wrong in [use[:k] + use[k + 1:], use[:k] + use[k:k + 1] + use[k:], list(use)]:
                self.assertFalse(is_use(wrong, kinds, NAMES))
                self.assertFalse(is_pattern(wrong, kinds, NAMES))
        self.assertTrue(is_use((), [], NAMES))
        self.assertFalse(is_use([], [], NAMES))

    def test_signs_of_a_pattern(self):
        twelve, more = wide(12), wide(13)
        self.assertTrue(is_pattern((twelve,), ["types"], NAMES))
        self.assertFalse(is_pattern((more,), ["types"], NAMES))
        self.assertTrue(is_use((more,), ["types"], NAMES))
        self.assertTrue(is_pattern((wide(11), 3), ["types", "num"], NAMES))
        self.assertFalse(is_pattern((wide(11), ("form", 7, "n", 9), ("list", (), "r")), ["types", "num", "pile"], NAMES))
        self.assertTrue(is_pattern((wide(12), ("list", (), None)), ["types", "pile"], NAMES))
        self.assertFalse(is_pattern((wide(12), ("list", (), "r")), ["types", "pile"], NAMES))

    def test_odd_patterns_and_uses(self):
        for value in ODD_VALUES:
            for kinds in [["type"], ["num"], ["pile"], ["type", "types"]]:
                for given in [value, (value,), (value, value), (A, value)]:
                    self.assertIs(False, is_pattern(given, kinds, NAMES), given)
                    self.assertIs(False, is_use(given, kinds, NAMES), given)
            self.assertIs(value == () and isinstance(value, tuple), is_use(value, (), NAMES))

    def test_invalid_kind(self):
        for kind in ["pile", "", "Type", None, 3, True, ["type"], ("type",), {}, NAMES]:
            for value in [A, None, deep(299)]:
                error = raised(is_term, value, kind, NAMES)
                self.assertIs(InvalidKind, type(error))
                self.assertIs(kind, error.given)

    def test_invalid_kinds(self):
        five = ["type"] * 5
        for kinds in [five, tuple(five), "type", None, 3, True, {"type": 1}, ["type", None], [["type"]], ["Type"], [0], {}]:
            for function in [is_pattern, is_use]:
                for value in [(A,), None, ()]:
                    error = raised(function, value, kinds, NAMES)
                    self.assertIs(InvalidKinds, type(error))
                    self.assertIs(kinds, error.given)
        self.assertTrue(is_use((A,) * 4, five[:4], NAMES))
        self.assertTrue(is_pattern((A,) * 4, tuple(five[:4]), NAMES))

    def test_variables(self):
        given = terms("P<?b,B<?a>>,(?c,?a,..?r),3*#n+1,(..?q)", "type types num pile")
        expected = [("b", "type"), ("a", "type"), ("c", "type"), ("r", "types"), ("n", "num"), ("q", "types")]
        self.assertEqual(expected, variables(given))
        self.assertEqual(expected, variables(terms=given))
        self.assertIsNot(variables(given), variables(given))
        self.assertEqual([], variables(()))
        self.assertEqual([], variables((3, A, ("list", (A,), None))))
        rows = terms("(P<?d,?a>,..?r),(?b,..?q),?c,?a", "types types type type")
        self.assertEqual(["d", "a", "r", "b", "q", "c"], [name for name, _ in variables(rows)])

    def test_closed(self):
        for text, kind, closed in [("A", "type", True), ("?t", "type", False), ("P<A,B<?t>>", "type", False),
                                   ("P<A,B<A>>", "type", True), ("3", "num", True), ("#n", "num", False),
                                   ("()", "types", True), ("(A)", "types", True), ("(A,?t)", "types", False),
                                   ("(..?r)", "types", False), ("(A,..?r)", "types", False)]:
            self.assertIs(closed, is_closed(term=terms(text, kind)[0]), text)

    def test_told_of_errors(self):
        self.assertEqual(("InvalidKind", "pile"), told(raised(is_term, 0, "pile", NAMES)))


def balanced(signs):
    """A type with as many signs that is not deep."""
    if signs < 3:
        return A if signs == 1 else type_of("B", A)
    half = (signs - 1) // 2
    return type_of("P", balanced(half), balanced(signs - 1 - half))


if __name__ == "__main__":
    unittest.main()
