"""Points [31] to [33]: matching, filling, more special and alike patterns, renaming."""

import random
import unittest

from mostspecial.errors import InvalidBinding
from mostspecial.matches import alike, filled, is_shaped, matching, more_special, renamed
from mostspecial.terms import variables
from mostspecial.termtexts import write_terms
from tests.tools import ODD_VALUES, NarrowStack, deep, raised, random_pattern, random_use, takes, terms, type_of

A = type_of("A")
EMPTY = ("list", (), None)
# The values among those of a test that have the form of terms of a kind, whatever their names are.
FITTING = {
    "type": [A, ("var", "t"), ("var", "T"), ("type", "a", ()), ("type", "B", ()), ("type", "A", (("var", "t"),))],
    "num": [3, ("form", 1, "m", 0), 10 ** 30], "types": [EMPTY, ("list", (), "R")],
}


def found(pattern, use, kinds):
    """The matching of texts, with the texts of the terms in it."""
    binding = matching(terms(pattern, kinds), terms(use, kinds))
    return None if binding is None else {name: write_terms((term,)) for name, term in binding.items()}


class TestMatching(unittest.TestCase):
    def test_types(self):
        self.assertEqual({"t": "A"}, found("?t", "A", "type"))
        self.assertEqual({}, found("A", "A", "type"))
        self.assertIsNone(found("A", "Zed", "type"))
        self.assertEqual({"t": "P<A,B<A>>", "s": "Zed"}, found("B<?t>,?s", "B<P<A,B<A>>>,Zed", "type type"))
        self.assertIsNone(found("B<?t>", "A", "type"))
        self.assertIsNone(found("P<A,?t>", "P<B<A>,A>", "type"))
        # In this stage one name may have other numbers of args in the pattern and in the use.
        for one, other in [(A, type_of("A", A)), (type_of("B", A), type_of("B")), (type_of("B", ("var", "t")), type_of("B", A, A)), (type_of("P", A, ("var", "t")), type_of("P", A))]:
            self.assertIsNone(matching((one,), (other,)))
            self.assertIsNone(matching((("list", (one,), "r"),), (("list", (other,), None),)))
            self.assertFalse(more_special((other,), (one,)))

    def test_variables_that_stand_again(self):
        self.assertEqual({"t": "B<A>"}, found("?t,B<?t>", "B<A>,B<B<A>>", "type type"))
        self.assertIsNone(found("?t,B<?t>", "B<A>,B<A>", "type type"))
        self.assertEqual({"t": "A", "r": "(A)"}, found("P<?t,?t>,(?t,..?r),(..?r)", "P<A,A>,(A,A),(A)", "type types types"))
        self.assertIsNone(found("(..?r),(..?r)", "(A),(A,A)", "types types"))
        self.assertEqual({"n": "3"}, found("#n,2*#n+1,#n", "3,7,3", "num num num"))
        self.assertIsNone(found("#n,2*#n+1", "3,6", "num num"))
        self.assertIsNone(found("#n,2*#n+1", "3,9", "num num"))

    def test_forms(self):
        for text, use, expected in [("3*#n+2", 2, 0), ("3*#n+2", 5, 1), ("3*#n+2", 4, None), ("3*#n+2", 1, None),
                                    ("#n+5", 4, None), ("#n+5", 5, 0), ("2*#n", 0, 0), ("2*#n", 1, None), ("7", 7, "")]:
            binding = matching(terms(text, "num"), (use,))
            expected = {} if expected == "" else None if expected is None else {"n": expected}
            self.assertEqual(expected, binding, (text, use))
        self.assertIsNone(matching((7,), (8,)))

    def test_great_numbers(self):
        great = 10 ** 24
        self.assertEqual({"n": great}, matching((("form", 1, "n", 0),), (great,)))
        self.assertEqual({"n": 1}, matching((("form", great - 1, "n", 1),), (great,)))
        self.assertEqual({"n": 0}, matching((("form", great, "n", great),), (great,)))
        self.assertIsNone(matching((("form", great, "n", great),), (great - 1,)))

    def test_lists(self):
        self.assertEqual({"r": "()"}, found("(..?r)", "()", "types"))
        self.assertEqual({"r": "(A,Zed)"}, found("(..?r)", "(A,Zed)", "types"))
        self.assertEqual({"r": "()", "t": "A"}, found("(?t,..?r)", "(A)", "types"))
        self.assertEqual({"r": "(A,A)", "t": "Zed"}, found("(?t,..?r)", "(Zed,A,A)", "types"))
        self.assertIsNone(found("(?t,..?r)", "()", "types"))
        self.assertIsNone(found("(?t)", "(A,A)", "types"))
        self.assertIsNone(found("(?t,?s)", "(A)", "types"))
        self.assertEqual({"t": "A", "s": "Zed"}, found("(?t,?s)", "(A,Zed)", "pile"))
        self.assertEqual({}, found("()", "()", "types"))

    def test_unlike_places_and_kinds(self):
        rows = [(A,), (3,), (EMPTY,), (A, A), ()]
        for k, use in enumerate(rows):
            for j, pattern in enumerate([(("var", "t"),), (("form", 1, "n", 0),), (("list", (), "r"),),
                                         (("var", "s"), ("var", "t")), ()]):
                self.assertIs(k == j, matching(pattern, use) is not None)
                self.assertIs(k == j, more_special(use, pattern))
                self.assertIs(k == j == 4, more_special(pattern, use))
        self.assertIsNone(matching((("var", "t"), 3), (A, A)))

    def test_new_dict_on_each_call(self):
        pattern, use = terms("?t", "type"), (A,)
        one = matching(pattern=pattern, use=use)
        one["x"] = 3
        self.assertEqual({"t": A}, matching(pattern, use))
        self.assertIsNot(matching((), ()), matching((), ()))

    def test_deep_terms(self):
        with NarrowStack():
            one = deep(190, type_of("P", ("var", "t"), ("var", "t")))
            use = deep(190, type_of("P", deep(8), deep(8)))
            other = deep(190, type_of("P", deep(8), deep(7)))
            self.assertEqual(["t"], list(matching((one,), (use,))))
            self.assertIsNone(matching((one,), (other,)))
            twice = (("var", "t"), ("var", "t"))
            self.assertIsNotNone(matching(twice, (deep(199), deep(199))))
            self.assertIsNone(matching(twice, (deep(199), deep(199, type_of("Zed")))))
            self.assertTrue(alike((one,), renamed((one,))))
            put = filled((one,), {"t": deep(8)})
            self.assertTrue(alike(put, (use,)))

    def test_random_ones(self):
        chance, many = random.Random(31), 0
        for _ in range(6000):
            kinds = [chance.choice(["type", "num", "types"]) for _ in range(chance.randrange(1, 4))]
            pattern, use = random_pattern(chance, kinds), random_use(chance, kinds)
            binding = matching(pattern, use)
            self.assertIs(takes(pattern, use), binding is not None, (pattern, use))
            if binding is not None:
                many += 1
                self.assertEqual(use, filled(pattern, binding))
                self.assertEqual(sorted(name for name, _ in variables(pattern)), sorted(binding))
        self.assertGreater(many, 300)


class TestFilling(unittest.TestCase):
    def put(self, text, kinds, **binding):
        given = terms(text, kinds)
        self.assertEqual(filled(given, binding), filled(terms=given, binding=dict(binding)))
        return write_terms(filled(given, binding))

    def test_all_at_once(self):
        s, t = ("var", "s"), ("var", "t")
        self.assertEqual("P<?t,?s>,B<?t>", self.put("P<?s,?t>,B<?s>", "type type", s=t, t=s))
        self.assertEqual("P<B<?s>,B<B<?s>>>", self.put("P<?s,B<?s>>", "type", s=type_of("B", s)))
        binding = {"m": ("form", 1, "n", 1), "n": ("form", 2, "m", 0)}
        self.assertEqual("#n+1,4*#m+1", self.put("#m,2*#n+1", "num num", **binding))
        lists = {"r": ("list", (t,), "q"), "q": ("list", (), "r"), "t": A}
        self.assertEqual("(A,?t,..?q),(..?r)", self.put("(?t,..?r),(..?q)", "types types", **lists))

    def test_forms(self):
        self.assertEqual("7,3", self.put("2*#n+1,#n", "num num", n=3))
        self.assertEqual("6*#m+9", self.put("2*#n+1", "num", n=("form", 3, "m", 4)))
        self.assertEqual("#m", self.put("#n", "num", n=("form", 1, "m", 0)))
        self.assertEqual("1", self.put("2*#n+1", "num", n=0))

    def test_lists(self):
        full, open_list = ("list", (A, A), None), ("list", (A,), "q")
        self.assertEqual("(B<A>,A,A)", self.put("(B<A>,..?r)", "types", r=full))
        self.assertEqual("(A,..?q)", self.put("(..?r)", "types", r=open_list))
        self.assertEqual("(),(A)", self.put("(..?r),(A,..?r)", "types pile", r=EMPTY))

    def test_further_variables_change_nothing(self):
        self.assertEqual("A,3", self.put("A,3", "type num", t=A, n=3, r=EMPTY, x=None))
        self.assertEqual((), filled((), {"t": A}))

    def test_invalid_binding(self):
        given = terms("P<?a,?b>,(?c,..?r),2*#n", "type types num")
        right = {"a": A, "b": A, "c": A, "r": EMPTY, "n": 3}
        self.assertEqual("P<A,A>,(A),6", write_terms(filled(given, right)))
        names = ["a", "b", "c", "r", "n"]
        for k, name in enumerate(names):
            for wrong in [3, A, EMPTY, ("form", 1, "m", 0), ("var", "t"), 10 ** 30] + ODD_VALUES:
                kind = "type" if name in "abc" else "types" if name == "r" else "num"
                fits = is_shaped(wrong, kind)
                self.assertIs(fits, wrong in FITTING[kind] and not isinstance(wrong, bool), wrong)
                binding = {**right, name: wrong, **{other: None for other in names[k + 1:]}}
                if fits and k == len(names) - 1:
                    self.assertEqual(3, len(filled(given, binding)))
                    continue
                error = raised(filled, given, binding)
                self.assertEqual((InvalidBinding, names[k + 1] if fits else name), (type(error), error.given))
            missing = {other: right[other] for other in names[:k]}
            self.assertEqual(name, raised(filled, given, missing).given)
        self.assertEqual({"a": A, "b": A, "c": A, "r": EMPTY, "n": 3}, right)


class TestSpecial(unittest.TestCase):
    def order(self, p, q, kinds):
        """Whether p is more special than q, and q than p."""
        one, other = terms(p, kinds), terms(q, kinds)
        found = (more_special(one, other), more_special(other, one))
        self.assertEqual(found[0] and found[1], alike(one, other))
        self.assertEqual(found, (more_special(p=one, q=other), more_special(p=other, q=one)))
        return found

    def test_types(self):
        self.assertEqual((True, False), self.order("B<?t>", "?t", "type"))
        self.assertEqual((True, True), self.order("P<?t,?s>", "P<?s,?t>", "type"))
        self.assertEqual((True, False), self.order("P<?t,?t>", "P<?s,?t>", "type"))
        self.assertEqual((True, False), self.order("?x,?x", "?x,?y", "type type"))
        self.assertEqual((False, False), self.order("?x,?x", "?x,B<?y>", "type type"))
        self.assertEqual((False, False), self.order("?x,B<?x>", "B<?x>,?x", "type type"))
        self.assertEqual((True, True), self.order("?x,?y,?x", "?a,?x,?a", "type type type"))
        self.assertEqual((True, False), self.order("?x,?x,?x", "?a,?x,?a", "type type type"))
        self.assertEqual((False, False), self.order("A", "Zed", "type"))

    def test_numbers(self):
        self.assertEqual((True, False), self.order("4*#n+3", "2*#n+1", "num"))
        self.assertEqual((False, False), self.order("4*#n+1", "2*#n+3", "num"))
        self.assertEqual((False, False), self.order("2*#n", "3*#n", "num"))
        self.assertEqual((True, False), self.order("5", "2*#n+1", "num"))
        self.assertEqual((False, False), self.order("4", "2*#n+1", "num"))
        self.assertEqual((True, False), self.order("#n+1", "#n", "num"))
        self.assertEqual((True, False), self.order("2*#n,4*#n", "#n,2*#n", "num num"))
        self.assertEqual((False, False), self.order("2*#n,4*#n+1", "#n,2*#n", "num num"))
        self.assertEqual((True, True), self.order("#n,#m", "#m,#n", "num num"))
        self.assertEqual((True, False), self.order("3,6", "#n,2*#n", "num num"))
        self.assertEqual((False, False), self.order("3,#m", "#n,#n", "num num"))

    def test_lists(self):
        self.assertEqual((True, False), self.order("(?t,..?r)", "(..?r)", "types"))
        self.assertEqual((True, False), self.order("()", "(..?r)", "types"))
        self.assertEqual((False, False), self.order("()", "(?t,..?r)", "types"))
        self.assertEqual((True, False), self.order("(?t,?s)", "(?t,..?r)", "types"))
        self.assertEqual((True, False), self.order("(?t,..?r),(?t,..?r)", "(..?r),(..?r)", "types types"))
        self.assertEqual((True, False), self.order("(..?r),(..?r)", "(..?r),(..?s)", "types types"))
        self.assertEqual((False, False), self.order("(..?r),(?t,..?r)", "(..?r),(..?r)", "types types"))

    def test_same_words_mean_nothing(self):
        self.assertEqual((True, False), self.order("B<?x>,?x", "?x,?y", "type type"))
        self.assertEqual((False, True), self.order("?x,?y", "?y,B<?y>", "type type"))
        one, other = (("form", 2, "x", 0),), (("form", 1, "x", 0),)
        self.assertEqual((True, False), (more_special(one, other), more_special(other, one)))

    def test_unlike_kinds(self):
        for one, other in [((A,), (3,)), ((A,), (A, A)), ((EMPTY,), (A,)), ((3,), (EMPTY,)), ((), (A,))]:
            self.assertIs(False, alike(p=one, q=other))
            self.assertIs(False, more_special(one, other) or more_special(other, one))
        self.assertIs(True, alike((), ()))

    def test_more_special_by_uses(self):
        chance, many = random.Random(33), 0
        for _ in range(3000):
            kinds = [chance.choice(["type", "num", "types"]) for _ in range(chance.randrange(1, 3))]
            p, q = random_pattern(chance, kinds), random_pattern(chance, kinds)
            special = more_special(p, q)
            many += special
            closed = filled(p, {name: {"type": type_of("Own" + name), "num": 97 + 89 * k * k * k,
                                       "types": ("list", (type_of("Own" + name),) * (5 + 7 * k), None)}[kind]
                                for k, (name, kind) in enumerate(variables(p))})
            if special:
                self.assertTrue(takes(q, closed), (p, q))
                use = random_use(chance, kinds)
                self.assertTrue(takes(q, use) or not takes(p, use))
            elif all(kind == "type" for kind in kinds):
                self.assertFalse(takes(q, closed), (p, q))
        self.assertGreater(many, 100)

    def test_renamed(self):
        rows = [("P<?v1,?v0>,?v1", "type type", "P<?v0,?v1>,?v0"), ("(?b,..?a),?a1,#v0", "types type num", "(?v0,..?v1),?v2,#v3"),
                ("3*#v2+1,#v1,#v0,#v2", "num num num num", "3*#v0+1,#v1,#v2,#v0"), ("A,3,()", "type num types", "A,3,()"),
                ("(..?v1),(?v0,..?v1)", "pile types", "(..?v0),(?v1,..?v0)")]
        for text, kinds, expected in rows:
            given = terms(text, kinds)
            self.assertEqual(expected, write_terms(renamed(given)))
            self.assertEqual(text, write_terms(given))
            self.assertTrue(alike(given, renamed(p=given)))
            self.assertEqual(renamed(given), renamed(renamed(given)))
        self.assertEqual((), renamed(()))


if __name__ == "__main__":
    unittest.main()
