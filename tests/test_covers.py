"""Points [51] to [53]: covers."""

import random
import unittest

from mostspecial.covers import cover, is_cover, outside
from mostspecial.errors import NotCovered
from mostspecial.matches import matching, renamed
from mostspecial.meets import meet, meet_all
from mostspecial.terms import Names, is_use, is_type_name, named_types
from tests.tools import NAMES, ODD_VALUES, NarrowStack, raised, random_pattern, takes, terms, type_of


def count_tuples(value):
    return 1 + sum(count_tuples(item) for item in value if isinstance(item, tuple)) if isinstance(value, tuple) else 0


def nested(value):
    return 1 + max([nested(item) for item in value if isinstance(item, tuple)], default=0)


class Covers(unittest.TestCase):
    def covered(self, pattern, texts, kinds):
        """Check that a pattern is covered, and that no other answer is given."""
        pattern, patterns = self.read(pattern, texts, kinds)
        self.check_covered(pattern, patterns)

    def check_covered(self, pattern, patterns):
        self.assertIsNone(outside(pattern=pattern, patterns=patterns))
        tree = cover(pattern=pattern, patterns=tuple(patterns))
        self.assertEqual(tree, cover(pattern, list(patterns)))
        self.assertIs(True, is_cover(pattern=pattern, patterns=patterns, value=tree))
        self.assertLessEqual(count_tuples(tree), 20000)
        self.assertLessEqual(nested(tree), 200)

    def open(self, pattern, texts, kinds):
        """Check that a use is told that the pattern alone takes, and return it."""
        pattern, patterns = self.read(pattern, texts, kinds)
        return self.check_open(pattern, patterns, kinds.split())

    def check_open(self, pattern, patterns, kinds):
        use = outside(pattern, patterns)
        self.assertEqual(use, outside(pattern, tuple(patterns)))
        self.assertIsNotNone(use)
        error = raised(cover, pattern, patterns)
        self.assertIs(NotCovered, type(error))
        told = dict(named_types([*pattern, *[term for row in patterns for term in row]]))
        for told_use in [use, error.use]:
            self.assertIsNotNone(matching(pattern, told_use))
            self.assertTrue(all(matching(row, told_use) is None for row in patterns))
            self.assertFalse(any(takes(row, told_use) for row in patterns if max_number(told_use) < 500))
            self.assertTrue(is_use(told_use, kinds, Names(sorted(told.items()))))
            self.assertTrue(all(is_type_name(name) for name, _ in named_types(told_use)))
        return use

    def read(self, pattern, texts, kinds):
        return terms(pattern, kinds), [terms(text, kinds) for text in texts]


def max_number(use):
    return max([term for term in use if isinstance(term, int)], default=0)


class TestOutside(Covers):
    def test_no_patterns(self):
        for text, kinds in [("?t", "type"), ("#n", "num"), ("(..?r)", "types"), ("A,3,()", "type num types"), ("", "")]:
            self.open(text, [], kinds)

    def test_no_places(self):
        self.covered("", [""], "")

    def test_types(self):
        self.covered("B<?t>", ["?t"], "type")
        self.covered("P<?s,?t>", ["B<?t>", "P<?x,?y>"], "type")
        self.open("?t", ["A", "B<?t>", "P<?s,?t>"], "type")
        self.open("P<?s,?t>", ["P<A,?t>", "P<?t,A>", "P<B<?s>,?t>"], "type")
        use = self.open("?x,?y", ["?x,?x", "B<?x>,?y"], "type type")
        self.assertNotEqual(use[0], use[1])
        self.covered("?x,?x", ["?x,?y"], "type type")
        self.open("?x,?y,?z", ["?x,?x,?y", "?x,?y,?x", "?y,?x,?x"], "type type type")
        self.covered("?x,B<?x>", ["?x,?y", "A,A"], "type type")

    def test_numbers(self):
        self.covered("#n", ["2*#n", "2*#n+1"], "num")
        self.covered("#n", ["0", "1", "#n+2"], "num")
        self.covered("#n", ["2*#n", "4*#n+1", "4*#n+3"], "num")
        self.covered("#n", ["2*#n", "3*#n", "6*#n+1", "6*#n+5"], "num")
        self.covered("#n", ["2*#n", "3*#n", "4*#n+1", "12*#n+7", "12*#n+11"], "num")
        self.covered("3*#n+1", ["6*#n+4", "6*#n+1"], "num")
        self.covered("7", ["2*#n+1"], "num")
        self.covered("#n", ["12*#n+12", "0", "2*#n+1", "12*#n+2", "4*#n+4", "6*#n+6", "12*#n+10"], "num")
        self.assertEqual((1,), self.open("#n", ["2*#n", "2*#n+3"], "num"))
        self.assertEqual((0,), self.open("#n", ["#n+1"], "num"))
        self.open("2*#n", ["4*#n", "6*#n+2", "12*#n+6"], "num")
        self.open("#n", ["12*#n+11", "3"], "num")

    def test_each_number_that_is_left(self):
        for left in range(13):
            texts = ["#n+13"] + [f"{k}" for k in range(13) if k != left]
            self.assertEqual((left,), outside(*self.read("#n", texts, "num")))
        for left in range(12):
            texts = [f"12*#n+{k}" if k else "12*#n" for k in range(12) if k != left]
            use = outside(*self.read("#n", texts, "num"))
            self.assertEqual(left, use[0] % 12)

    def test_numbers_that_stand_twice(self):
        self.open("#n,#m", ["#n,#n"], "num num")
        self.open("#n,#m", ["#n,#n", "#n,#n+1", "#n+1,#n", "0,#n", "#n,0"], "num num")
        self.covered("#n,#n", ["#n,#m"], "num num")
        self.covered("#n,2*#n", ["2*#n,4*#n", "2*#n+1,2*#m"], "num num")
        self.open("#n,2*#n", ["2*#n,4*#n+4", "2*#n+1,2*#m"], "num num")
        self.open("#n,#m,#k", ["#n,#n,#k", "#n,#k,#n", "#k,#n,#n", "#n,2*#n,#k"], "num num num")
        self.covered("0,#m", ["#n,#n", "#n,#m+1"], "num num")
        self.open("#n,#m", ["#n,2*#n", "2*#n,#n", "#n,#n", "3*#n+1,2*#n", "#n,#n+2", "#n,3*#n+4"], "num num")

    def test_lists(self):
        self.covered("(..?r)", ["()", "(?x,..?r)"], "types")
        self.covered("(..?r)", ["()", "(?x)", "(?x,?y)", "(?x,?y,?z,..?r)"], "types")
        self.covered("(?x,..?r)", ["(?x)", "(?x,?y,..?r)"], "types")
        self.covered("(A)", ["(..?r)"], "types")
        self.open("(..?r)", ["()", "(A,..?r)"], "types")
        self.open("(..?r)", ["()", "(?x)", "(?x,?y,?z,..?r)"], "types")
        self.open("(..?r)", ["(?x,?y,..?r)", "(?x)"], "types")
        self.open("(..?r)", ["()", "(?x)", "(?x,?y)"], "types")
        self.open("(..?r)", ["()", "(?x,?x,..?r)", "(?x)"], "types")
        self.covered("(?x,?x,..?r)", ["(?x,?y)", "(?x,?y,?y,..?r)", "(?x,?y,?z,..?r)"], "types")
        for left in range(10):
            texts = ["(" + ",".join([f"?x{k}" for k in range(many)]) + ")" for many in range(10) if many != left]
            texts = [text for text in texts[:7]]
            self.open("(..?r)", texts, "types")

    def test_lists_that_stand_twice(self):
        self.open("(..?r),(..?s)", ["(..?r),(..?r)"], "types types")
        self.covered("(..?r),(..?r)", ["(..?r),(..?s)"], "types types")
        self.open("(..?r),(..?s)", ["(..?r),(..?r)", "(..?r),(?x,..?r)", "(?x,..?r),(..?r)"], "types types")
        self.covered("(..?r),(?x,..?r)", ["(),(?x)", "(?x,..?r),(?y,?x,..?r)"], "types types")
        self.open("(..?r),(A,..?r)", ["(),(A)", "(?x,..?r),(?x,?x,..?r)"], "types types")
        self.covered("(),(..?s)", ["(..?r),(..?r)", "(..?r),(?x,..?s)"], "types types")

    def test_kinds_together(self):
        kinds = "type num types"
        self.covered("?t,#n,(..?r)", ["?t,0,(..?r)", "?t,#n+1,()", "?t,#n+1,(?x,..?r)"], kinds)
        self.open("?t,#n,(..?r)", ["?t,0,(..?r)", "?t,#n+1,()", "?t,#n+2,(?x,..?r)"], kinds)
        self.open("?t,#n,(..?r)", ["?t,0,(..?r)", "?t,#n+1,()", "?t,#n+1,(?t,..?r)"], kinds)
        self.covered("?t,#n,(?t,..?r)", ["?t,0,(..?r)", "?t,#n+1,(?t,..?r)"], kinds)
        self.open("?t,#n,(..?r)", ["A,#n,(..?r)", "B<?t>,#n,(..?r)", "P<?s,?t>,#n,(..?r)"], kinds)

    def test_alike_patterns_and_doubles(self):
        self.covered("#n", ["2*#m", "2*#n", "2*#n+1", "2*#n+1"], "num")
        self.open("?t", ["A", "A", "B<?x>", "B<?y>"], "type")

    def test_names_of_uses(self):
        use = self.open("?t,?s", ["Other,?t", "Otherb,?s", "B<?t>,?s", "?s,?s"], "type type")
        self.assertNotIn(use[0][1], ["Other", "Otherb", "B"])
        self.open("P<?a,?b>,(?c,..?r)", ["P<?a,?a>,(?c,..?r)", "P<?a,?b>,(?a,..?r)", "P<?a,?b>,(?b,..?r)"], "type types")

    def test_meets(self):
        rows = [terms(text, "num num types") for text in ["2*#n,#m,(..?r)", "#n,3*#n,(?x,..?r)", "#n,#m,(?x,?x,..?r)"]]
        both = meet(rows[0], rows[1])
        self.check_covered(both, rows[1:])
        self.check_open(both, [meet_all(rows)] + rows[2:], ["num", "num", "types"])
        self.check_covered(meet_all(rows), rows)
        both = meet(terms("#a,12*#a,#b,12*#b", "num num num num"), terms("#x,#y,#y,#z", "num num num num"))
        self.check_covered(both, [terms(text, "num num num num") for text in ["2*#a,#b,#c,#c", "#a,#b,#b,12*#c"]])
        self.check_open(both, [terms("#a,#b,#c,#c", "num num num num"), terms("2*#a,#b,#b,#c", "num num num num")],
                        ["num"] * 4)

    def test_lists_are_not_changed_and_answers_equal(self):
        pattern, patterns = self.read("(..?r),#n", ["(),#n", "(?x,..?r),2*#n"], "types num")
        before = list(patterns)
        first = outside(pattern, patterns)
        self.assertEqual((before, first), (patterns, outside(pattern, before)))
        self.assertEqual(raised(cover, pattern, patterns).use, raised(cover, pattern, before).use)

    def test_random_ones(self):
        chance, many = random.Random(51), {True: 0, False: 0}
        for _ in range(700):
            kinds = [chance.choice(["type", "num", "types"]) for _ in range(chance.randrange(1, 4))]
            patterns = [random_pattern(chance, kinds) for _ in range(chance.randrange(1, 7))]
            pattern = random_pattern(chance, kinds)
            if chance.random() < 0.5:
                patterns.append(pattern)
                pattern = meet(pattern, chance.choice(patterns))
            if pattern is None:
                continue
            closed = outside(pattern, patterns) is None
            many[closed] += 1
            if closed:
                self.check_covered(pattern, patterns)
            else:
                self.check_open(pattern, patterns, kinds)
        self.assertGreater(min(many.values()), 100)

    def test_numbers_by_trying(self):
        chance, many = random.Random(52), {True: 0, False: 0}
        for _ in range(300):
            patterns = [(chance.choice([chance.randrange(5), ("form", chance.choice([1, 2, 2, 3, 3, 6]), "n",
                                                              chance.randrange(5))]),) for _ in range(8)]
            taken = [any(takes(row, (n,)) for row in patterns) for n in range(40)]
            whole = (("form", 1, "m", 0),)
            use = outside(whole, patterns)
            many[use is None] += 1
            self.assertIs(all(taken), use is None)
            if use is None:
                self.check_covered(whole, patterns)
            elif use[0] < 40:
                self.assertFalse(taken[use[0]])
        self.assertGreater(min(many.values()), 20)

    def test_split_patterns_cover(self):
        chance = random.Random(53)
        for _ in range(200):
            whole = terms("#n,(..?r),#m", "num types num")
            patterns = [whole]
            while len(patterns) < 8:
                split = patterns.pop(chance.randrange(len(patterns)))
                patterns.extend(self.split(chance, split))
            for pattern in [whole, *patterns]:
                self.check_covered(pattern, patterns)
            for k in range(len(patterns)):
                self.check_open(patterns[k], patterns[:k] + patterns[k + 1:], ["num", "types", "num"])

    def split(self, chance, pattern):
        """Patterns that take together what a pattern takes, and each use once."""
        places = [k for k in range(3) if not isinstance(pattern[k], int) and pattern[k][2] is not None]
        if not places:
            return [pattern]
        place = chance.choice(places)
        term = pattern[place]
        if place == 1:
            ends = [("list", term[1], None), ("list", term[1] + (("var", f"x{len(term[1])}"),), term[2])]
        elif chance.random() < 0.5:
            ends = [term[3], ("form", term[1], term[2], term[1] + term[3])]
        else:
            ends = [("form", 2 * term[1], term[2], term[3] + term[1] * k) for k in range(2)]
        return [pattern[:place] + (end,) + pattern[place + 1:] for end in ends]


class TestTrees(Covers):
    def trees(self, pattern, texts, kinds, rows):
        pattern, patterns = self.read(pattern, texts, kinds)
        for value, right in rows:
            self.assertIs(right, is_cover(pattern, patterns, value), value)

    def test_in(self):
        self.trees("B<?t>", ["A", "?t", "B<?t>"], "type", [
            (("in", 0), False), (("in", 1), True), (("in", 2), True), (("in", 3), False), (("in", -1), False),
            (("in", True), False), (("in", "1"), False), (("in",), False), (("in", 1, 1), False), (["in", 1], False),
            (("In", 1), False), (("in", None), False), (("in", (1,)), False), (("in", [1]), False), (("in", {}), False)])
        self.trees("?t", ["?t"], "type", [(("in", False), False), (("in", 0), True)])
        self.trees("?t", [], "type", [(("in", 0), False)])

    def test_list(self):
        right = ("list", "v0", ("in", 0), ("in", 1))
        changed = [("list", "r", *right[2:]), ("list", "v1", *right[2:]), right[:3], (*right, ("in", 1)), list(right),
                   ("list", "v0", ["in", 0], ("in", 1)), ("list", "v0", ("in", 1), ("in", 0)), ("list", None, *right[2:]),
                   ("list", ("v0",), *right[2:]), ("list", ["v0"], *right[2:]), ("list", "v0", ("in", 0), ("in", 0)),
                   ("list", "v0", ("in", 0)), ("list",), ("list", "v0", None, ("in", 1)), ("List", *right[1:]),
                   ("list", "v0", (("in", 0), ("in", 1))), ("num", "v0", 1, 1, (("in", 0), ("in", 1))),
                   ("Num", "v0", 1, 1, (("in", 0), ("in", 1))), ("list", "v0", 1, 1, (("in", 0), ("in", 1)))]
        rows = [(right, True)] + [(value, False) for value in changed]
        self.trees("(..?r)", ["()", "(?x,..?r)"], "types", rows)
        self.trees("(?a,..?r)", ["(?a)", "(?a,?x,..?r)"], "types", [
            (("list", "v1", ("in", 0), ("in", 1)), True), (("list", "v0", ("in", 0), ("in", 1)), False)])

    def test_num(self):
        right = ("num", "v0", 1, 2, (("in", 0), ("in", 1), ("in", 2)))
        trees = right[4]
        changed = [("num", "n", *right[2:]), ("num", "v1", *right[2:]), ("num", "v0", 2, 1, trees), ("num", "v0", 0, 3, trees),
                   ("num", "v0", 1, 1, trees), ("num", "v0", 1, 3, trees), ("num", "v0", True, 2, trees), right[:4],
                   ("num", "v0", 1, 2, list(trees)), ("num", "v0", 1, 2, trees[:2]), ("num", "v0", 1, 2, (*trees, trees[0])),
                   ("num", "v0", -1, 4, trees), ("num", "v0", 3, 0, trees), ("num", "v0", 1, 2, trees[::-1]),
                   ("num", "v0", "1", 2, trees), ("num", "v0", 1, None, trees), (*right, ()), list(right),
                   ("num", "v0", 1, 2, (trees[0], trees[1], ["in", 2])), ("num", "v0", 1, 2, (*trees[:2], ("in", 1))),
                   ("num", 0, 1, 2, trees), ("num", "v0", 1, 2, None), ("num", "v0", 1, 2, *trees)]
        self.trees("#n", ["0", "2*#n+1", "2*#n+2"], "num", [(right, True)] + [(value, False) for value in changed])
        self.trees("#n", ["#m"], "num", [
            (("num", "v0", 0, 1, (("in", 0),)), True), (("num", "v0", 1, True, (("in", 0), ("in", 0))), False),
            (("num", "v0", 2, 3, (("in", 0),) * 5), True), (("num", "v0", 0, 0, ()), False),
            (("num", "v0", -1, 1, ()), False), (("num", "v0", -1, 2, (("in", 0),)), False), (("Num", "v0", 0, 1, (("in", 0),)), False)])

    def test_within_one_another(self):
        within = ("num", "v0", 1, 1, (("in", 0), ("list", "v1", ("in", 1), ("in", 2))))
        without = ("list", "v1", ("num", "v0", 1, 1, (("in", 0), ("in", 1))), ("num", "v0", 1, 1, (("in", 0), ("in", 2))))
        rows = [(within, True), (without, True),
                (("num", "v0", 1, 1, (("in", 0), ("list", "v0", ("in", 1), ("in", 2)))), False),
                (("num", "v0", 1, 1, (("list", "v0", ("in", 0), ("in", 0)), ("list", "v1", ("in", 1), ("in", 2)))), True),
                (("num", "v0", 1, 1, (("list", "v1", ("in", 0), ("in", 0)), ("list", "v1", ("in", 1), ("in", 2)))), False)]
        self.trees("#n,(..?r)", ["0,(..?r)", "#n+1,()", "#n+1,(?x,..?r)"], "num types", rows)

    def test_new_variables_have_names_in_order(self):
        texts = ["(),(..?s)", "(?x),(..?s)", "(?x,?y,..?r),(..?s)"]
        right = ("list", "v0", ("in", 0), ("list", "v1", ("in", 1), ("in", 2)))
        longer = ("list", "v0", ("in", 0), ("list", "v2", ("list", "v1", ("in", 1), ("in", 2)), ("in", 2)))
        later = ("list", "v1", right, ("list", "v0", ("in", 0), ("list", "v1", ("in", 1), ("in", 2))))
        self.trees("(..?r),(..?s)", texts, "types types", [(right, True), (longer, False), (later, True)])
        self.trees("(..?s),(..?r)", texts, "types types", [(right, True), (later, True)])

    def test_odd_values(self):
        for text, texts, kinds in [("?t", ["?t"], "type"), ("#n", ["#n"], "num"), ("(..?r)", ["()", "(?x,..?r)"], "types")]:
            pattern, patterns = self.read(text, texts, kinds)
            for value in ODD_VALUES + [3, ("num", "v0", 1, 1, [])]:
                expected = value == ("in", 0) and value[1] is not False and len(texts) == 1
                self.assertIs(expected, is_cover(pattern, patterns, value), value)
                end = value == ("in", 0)
                for form, right in [(("list", "v0", value, ("in", 1)), end and kinds == "types"),
                                    (("num", "v0", 1, 1, (("in", 0), value)), end and kinds == "num"),
                                    (("in", value), False), ((value,), False), ((value, 0), False)]:
                    self.assertIs(right, is_cover(pattern, patterns, form), form)

    def test_great_trees(self):
        with NarrowStack():
            pattern, patterns = self.read("#n", ["#n"], "num")
            tree = ("in", 0)
            for _ in range(99):
                tree = ("num", "v0", 0, 1, (tree,))
            self.assertTrue(is_cover(pattern, patterns, tree))
            self.assertTrue(is_cover(pattern, patterns, ("num", "v0", 9000, 9000, (("in", 0),) * 18000)))
            self.assertFalse(is_cover(pattern, patterns, ("num", "v0", 9000, 9000, (("in", 0),) * 17999 + (("in", 1),))))
            pattern, patterns = self.read("(..?r)", ["(..?r)"], "types")
            tree = ("in", 0)
            for k in range(198, -1, -1):
                tree = ("list", f"v{k}", ("in", 0), tree)
            self.assertTrue(is_cover(pattern, patterns, tree))

    def test_patterns_are_told_by_their_indices(self):
        pattern, patterns = self.read("#n", ["2*#n", "2*#n+1"], "num")
        tree = cover(pattern, patterns)
        self.assertTrue(is_cover(pattern, patterns, tree))
        self.assertFalse(is_cover(pattern, patterns[::-1], tree))
        self.assertTrue(is_cover(renamed(pattern), tuple(patterns), tree))
        self.assertFalse(is_cover(terms("2*#n", "num"), patterns, tree))


if __name__ == "__main__":
    unittest.main()
