"""Points [41] to [43]: meets."""

import itertools
import random
import unittest

from mostspecial.matches import alike, filled, more_special, renamed
from mostspecial.meets import meet, meet_all, meet_forms
from mostspecial.terms import count_signs, variables
from mostspecial.termtexts import write_terms
from tests.tools import NarrowStack, deep, random_pattern, random_use, takes, terms, type_of


class TestMeet(unittest.TestCase):
    def check(self, p, q, kinds, expected):
        """The meet of two texts, in both orders."""
        one, other = terms(p, kinds), terms(q, kinds)
        for found in [meet(one, other), meet(p=one, q=other), meet_all([one, other])]:
            self.assertEqual(expected, None if found is None else write_terms(found), (p, q))
        back = meet(other, one)
        self.assertEqual(expected is None, back is None)
        if back is not None:
            self.assertTrue(alike(meet(one, other), back))
            self.assertEqual(back, renamed(back))
            self.assertTrue(more_special(back, one) and more_special(back, other))
        self.assertEqual((p, q), (write_terms(one), write_terms(other)))

    def test_types(self):
        self.check("?t", "?t", "type", "?v0")
        self.check("A", "A", "type", "A")
        self.check("A", "?t", "type", "A")
        self.check("A", "Zed", "type", None)
        self.check("P<?a,A>", "P<A,?a>", "type", "P<A,A>")
        self.check("B<?a>,?b", "?b,B<?a>", "type type", "B<?v0>,B<?v1>")
        self.check("P<?a,?b>", "B<?a>", "type", None)
        self.check("A", "B<?a>", "type", None)

    def test_same_words_are_other_variables(self):
        self.check("?x,B<?x>", "B<?x>,?y", "type type", "B<?v0>,B<B<?v0>>")
        self.check("?x", "B<?x>", "type", "B<?v0>")
        self.check("#n,#n", "#n+1,#m", "num num", "#v0+1,#v0+1")

    def test_variables_that_stand_again(self):
        self.check("P<?a,?a>", "P<?a,B<?b>>", "type", "P<B<?v0>,B<?v0>>")
        self.check("P<?a,?a>,?a", "P<?a,?b>,B<?b>", "type type", None)
        self.check("?a,?a,?b", "?x,?y,?y", "type type type", "?v0,?v0,?v0")
        self.check("P<?a,?b>,P<?a,?b>", "P<A,?a>,P<?b,B<?b>>", "type type", "P<A,B<A>>,P<A,B<A>>")
        self.check("(?a,?b,?a),?b", "(?x,B<?x>,..?r),?y", "types type", "(?v0,B<?v0>,?v0),B<?v0>")

    def test_variables_within_themselves(self):
        self.check("?x,B<?x>", "B<?y>,?y", "type type", None)
        self.check("?x,?x", "?y,B<?y>", "type type", None)
        self.check("?a,B<?b>,?b", "?x,?x,B<?x>", "type type type", None)
        self.check("?a,?b,?c,?a", "?x,B<?x>,B<?y>,?y", "type type type type", "?v0,B<?v0>,B<?v0>,?v0")
        self.check("B<?a>,B<?b>,B<?c>", "P<?x,?x>,?y,?z", "type type type", None)
        self.check("?a,?b,?a", "B<?x>,?x,?x", "type type type", None)
        self.check("?a,?b,?b,?a", "?x,B<?x>,?y,B<?y>", "type type type type", None)
        self.check("(..?r),(?x,..?r)", "(..?s),(..?s)", "types types", None)
        self.check("(?x,..?r),(..?r)", "(..?s),(A,..?s)", "types pile", None)

    def test_rests(self):
        self.check("(..?r)", "(..?r)", "types", "(..?v0)")
        self.check("()", "(..?r)", "types", "()")
        self.check("()", "(?x,..?r)", "types", None)
        self.check("(A,..?r)", "(?x,?y,..?r)", "types", "(A,?v0,..?v1)")
        self.check("(A,..?r)", "(?x,?y)", "types", "(A,?v0)")
        self.check("(?x,?y,..?r)", "(?x)", "types", None)
        self.check("(?x,?x,..?r)", "(A,..?r)", "types", "(A,A,..?v0)")
        self.check("(..?r),(..?r)", "(A,..?r),(..?s)", "types pile", "(A,..?v0),(A,..?v0)")
        self.check("(..?r),(B<A>,..?r)", "(A,..?r),(..?s)", "types pile", "(A,..?v0),(B<A>,A,..?v0)")
        self.check("(..?r),(..?r)", "(?x),(?x,?y)", "types types", None)
        self.check("?x,(?x,..?r)", "B<?x>,(..?r)", "type types", "B<?v0>,(B<?v0>,..?v1)")

    def test_forms(self):
        self.check("2*#n+1", "3*#n", "num", "6*#v0+3")
        self.check("2*#n", "2*#n+1", "num", None)
        self.check("2*#n", "4*#n+6", "num", "4*#v0+6")
        self.check("#n+3", "5", "num", "5")
        self.check("#n+3", "2", "num", None)
        self.check("2*#n+3", "4", "num", None)
        self.check("7", "7", "num", "7")
        self.check("7", "8", "num", None)
        self.check("1000*#n+999", "999*#n", "num", write_form(1000, 999, 999, 0))

    def test_forms_tied_over_places(self):
        self.check("#n,2*#n", "#m+3,#m+8", "num num", "5,10")
        self.check("#n,#n", "2*#n,3*#n", "num num", "0,0")
        self.check("#n,#n", "2*#n,3*#m", "num num", "6*#v0,6*#v0")
        self.check("#n,#n+1", "2*#n,2*#m", "num num", None)
        self.check("#n,2*#n", "#n,#n+1", "num num", "1,2")
        self.check("#n,2*#n", "#n+1,#n", "num num", None)
        self.check("#n,#n+1", "#n,#n+2", "num num", None)
        self.check("#n,#n", "#n,#n", "num num", "#v0,#v0")
        self.check("#n,#m,#n", "#n,#n+1,#m", "num num num", "#v0,#v0+1,#v0")
        self.check("#n,#m,#n,#m", "#a,#a,#b,#b+1", "num num num num", None)
        self.check("#n,#m,#n,#m", "#a,#a,#b,2*#b", "num num num num", "0,0,0,0")
        self.check("#n,#m,#n,#m", "#a,#a,3*#b,2*#c", "num num num num", "6*#v0,6*#v0,6*#v0,6*#v0")
        self.check("2*#n+1,#n", "#n,3*#m+1", "num num", "6*#v0+3,3*#v0+1")
        self.check("#n,2*#n", "#a,3", "num num", None)
        self.check("#n,3*#n,#m,5*#m", "2*#a,#b,#b,#c+7", "num num num num", "2*#v0+2,6*#v0+6,6*#v0+6,30*#v0+30")

    def test_unlike_places_and_kinds(self):
        rows = [("?t", "type"), ("#n", "num"), ("(..?r)", "types"), ("?s,?t", "type type"), ("", "")]
        for k, (one, kinds) in enumerate(rows):
            for j, (other, kinds_too) in enumerate(rows):
                found = meet(terms(one, kinds), terms(other, kinds_too))
                self.assertIs(k == j, found is not None)
        self.assertEqual((), meet((), ()))

    def test_order_of_variables(self):
        self.check("?b,?a,(?c,..?r)", "?x,?y,(?z,?x,..?y1)", "type type types", "?v0,?v1,(?v2,?v0,..?v3)")
        self.check("P<?v1,?v0>,?v0", "?a,?b", "type type", "P<?v0,?v1>,?v1")

    def test_random_ones(self):
        chance, some = random.Random(41), 0
        for _ in range(3000):
            kinds = [chance.choice(["type", "num", "types"]) for _ in range(chance.randrange(1, 4))]
            p, q = random_pattern(chance, kinds), random_pattern(chance, kinds)
            both = meet(p, q)
            if both is not None:
                some += 1
                self.assertEqual(both, renamed(both))
                self.assertTrue(more_special(both, p) and more_special(both, q))
                self.assertTrue(alike(both, meet(q, p)))
                self.assertEqual(both, meet(both, p))
                self.assertIs(more_special(p, q), alike(p, both))
                binding = {name: {"type": type_of("Own" + name), "num": 5, "types": ("list", (), None)}[kind]
                           for name, kind in variables(both)}
                use = filled(both, binding)
                self.assertTrue(takes(p, use) and takes(q, use))
            for _ in range(5):
                use = random_use(chance, kinds)
                self.assertIs(takes(p, use) and takes(q, use), both is not None and takes(both, use))
        self.assertGreater(some, 500)

    def test_numbers_by_trying(self):
        chance = random.Random(43)
        for _ in range(600):
            many = chance.randrange(1, 4)
            p, q = [tuple(chance.choice([chance.randrange(7), ("form", chance.randrange(1, 4), chance.choice("ab"),
                                                               chance.randrange(4))]) for _ in range(many))
                    for _ in range(2)]
            both = meet(p, q)
            for use in itertools.product(range(9), repeat=many):
                expected = takes(p, use) and takes(q, use)
                self.assertIs(expected, both is not None and takes(both, use), (p, q, use))
            self.assertTrue(both is None or more_special(both, p) and more_special(both, q))

    def test_shared_parts_stay_small(self):
        # Each item is twice as great as the one ahead of it: written out, the last ones would be endless.
        items = [("var", f"x{k}") for k in range(60)]
        doubled = [items[0]] + [type_of("P", item, item) for item in items[:-1]]
        row, more = ("list", tuple(items), None), ("list", tuple(doubled), None)
        ends = [(items[0], items[59]), (type_of("A"), items[59]), (items[59], type_of("B", items[0])), (3, 4)]
        for one, other in ends:
            self.assertIsNone(meet((row, row, one), (row, more, other)))
            self.assertIsNone(meet((one, row, row), (other, more, row)))

    def test_greatest_meets(self):
        left = terms("P<P<?a,?a>,P<P<?b,?b>,P<?c,?c>>>,?d", "type type")
        right = terms("P<?x,P<?y,?z>>,B<?z>", "type type")
        self.assertEqual("P<P<?v0,?v0>,P<P<?v1,?v1>,P<?v2,?v2>>>,B<P<?v2,?v2>>", write_terms(meet(left, right)))
        rows = [terms(text, "types") for text in ["(?x,P<?x,?x>,?y,P<?y,?y>,?z,P<?z,?z>)", "(..?r)",
                                                  "(?a,?x,P<?x,?x>,?y,P<?y,?y>,?e)"]]
        found = meet_all(rows)
        self.assertEqual(1, len(variables(found)))
        self.assertEqual(sum(2 ** (k + 1) - 1 for k in range(6)), count_signs(found))

    def test_deep_terms(self):
        with NarrowStack():
            one, other = (deep(150, ("var", "t")),), (deep(100, ("var", "s")),)
            self.assertEqual(write_terms((deep(150, ("var", "v0")),)), write_terms(meet(one, other)))
            self.assertIsNone(meet(one, (deep(100, type_of("Zed")),)))
            wide = ("list", (type_of("A"),) * 3000, "r")
            self.assertEqual(3000, len(meet((wide,), (("list", (), "q"),))[0][1]))


def write_form(a, b, c, d):
    """The text of the meet of two forms, found by trying."""
    common = [n for n in range(b, 3 * a * c) if n >= d and (n - b) % a == 0 and (n - d) % c == 0]
    return f"{common[1] - common[0]}*#v0+{common[0]}"


class TestMeetAll(unittest.TestCase):
    def test_one_pattern(self):
        for text, kinds, expected in [("P<?b,?a>,#n", "type num", "P<?v0,?v1>,#v2"), ("A", "type", "A"), ("", "", "")]:
            self.assertEqual(expected, write_terms(meet_all([terms(text, kinds)])))
            self.assertEqual(expected, write_terms(meet_all(patterns=(terms(text, kinds),))))

    def test_orders_and_doubles(self):
        texts = ["P<?a,?b>", "P<?b,A>", "P<B<?a>,?c>"]
        for row in itertools.permutations(texts):
            given = [terms(text, "type") for text in row]
            self.assertEqual("P<B<?v0>,A>", write_terms(meet_all(given)))
            self.assertEqual("P<B<?v0>,A>", write_terms(meet_all(tuple(given) + (given[0], given[2]))))
            self.assertEqual(3, len(given))

    def test_each_two_but_not_all(self):
        rows = [terms(text, "type type type") for text in ["?a,?a,?b", "?a,?b,?b", "?a,?b,B<?a>"]]
        for one, other in itertools.combinations(rows, 2):
            self.assertIsNotNone(meet(one, other))
        self.assertIsNone(meet_all(rows))
        numbers = [terms(text, "num num num") for text in ["#a,#a,#b", "#a,#b,#b", "#a,#b,#a+1"]]
        for one, other in itertools.combinations(numbers, 2):
            self.assertIsNotNone(meet(one, other))
        self.assertIsNone(meet_all(numbers))

    def test_unlike_kinds(self):
        self.assertIsNone(meet_all([terms("A", "type"), terms("A,A", "type type")]))
        self.assertIsNone(meet_all([terms("A", "type"), terms("?t", "type"), terms("3", "num")]))
        self.assertIsNone(meet_all([terms("?t", "type"), terms("#t", "num")]))

    def test_eight(self):
        rows = [terms(f"(..?r),{2 + k}*#n", "types num") for k in range(6)] + [
            terms("(?x,?y,..?r),#n", "types num"), terms("(?x,?x,..?r),#n", "types num")]
        self.assertEqual("(?v0,?v0,..?v1),420*#v2", write_terms(meet_all(rows)))
        self.assertEqual("(?v0,?v0,..?v1),420*#v2", write_terms(meet_all(rows[::-1])))

    def test_random_groups(self):
        chance, some = random.Random(42), 0
        for _ in range(800):
            kinds = [chance.choice(["type", "num", "types"]) for _ in range(2)]
            rows = [random_pattern(chance, kinds) for _ in range(chance.randrange(3, 6))]
            both = meet_all(rows)
            shuffled = list(rows)
            chance.shuffle(shuffled)
            again, step = meet_all(shuffled), rows[0]
            for row in rows[1:]:
                step = None if step is None else meet(step, row)
            self.assertEqual(both is None, again is None)
            self.assertEqual(both is None, step is None)
            if both is not None:
                some += 1
                self.assertTrue(alike(both, again) and alike(both, step))
        self.assertGreater(some, 20)


class TestMeetForms(unittest.TestCase):
    def test_by_trying(self):
        chance = random.Random(1)
        for _ in range(3000):
            (a, b), (c, d) = [(chance.randrange(1, 13), chance.randrange(30)) for _ in range(2)]
            common = [n for n in range(400) if n >= b and n >= d and (n - b) % a == 0 and (n - d) % c == 0]
            expected = (common[1] - common[0], common[0]) if common else None
            self.assertEqual(expected, meet_forms((a, b), (c, d)))
            self.assertEqual(expected, meet_forms(one=(c, d), other=(a, b)))

    def test_single_ones(self):
        for one, other, expected in [((1, 0), (1, 0), (1, 0)), ((1, 7), (1, 3), (1, 7)), ((2, 0), (2, 1), None),
                                     ((4, 3), (4, 11), (4, 11)), ((6, 4), (4, 0), (12, 4)), ((6, 4), (4, 1), None),
                                     ((2, 1000), (3, 0), (6, 1002)), ((1, 1000), (1000, 1), (1000, 1001)),
                                     ((1000, 999), (999, 0), (999000, 999))]:
            self.assertEqual(expected, meet_forms(one, other))
            self.assertEqual(expected, meet_forms(other, one))


if __name__ == "__main__":
    unittest.main()
