"""Points [61] to [63]: tables."""

import itertools
import random
import unittest

from mostspecial.errors import HasTwo, InvalidKinds, InvalidPatterns, InvalidUse, NoTaker, TwoLeast
from mostspecial.matches import matching, more_special, renamed
from mostspecial.meets import meet, meet_all
from mostspecial.tables import Table, is_why_one
from mostspecial.terms import Names
from mostspecial.termtexts import write_terms
from tests.tools import NAMES, ODD_VALUES, deep, raised, random_pattern, random_use, takes, terms, type_of, wide

A = type_of("A")


def table(texts, kinds, names=NAMES):
    """The table of some texts."""
    return Table(names, tuple(kinds.split()), [terms(text, kinds, names) for text in texts])


def plain_choice(patterns, use):
    """The takers of a use, and the index of its choice or None, in the words of the document."""
    takers = [k for k, pattern in enumerate(patterns) if takes(pattern, use)]
    least = [k for k in takers if all(more_special(patterns[k], patterns[j]) for j in takers)]
    return takers, least[0] if least else None


class TestMaking(unittest.TestCase):
    def refused(self, kinds, patterns, error_class, names=NAMES):
        error = raised(Table, names, kinds, patterns)
        self.assertIs(error_class, type(error))
        self.assertIs(kinds if error_class is InvalidKinds else patterns, error.given)

    def test_attributes(self):
        kinds, patterns = ["type", "num"], [terms("?t,0", "type num"), terms("B<?t>,#n", "type num")]
        made = Table(names=NAMES, kinds=kinds, patterns=patterns)
        expected = tuple(patterns)
        kinds.append("num")
        patterns.pop()
        self.assertEqual((("type", "num"), expected, 2), (made.kinds, made.patterns, len(made)))
        self.assertEqual([0, 1], made.takers(terms("B<A>,0", "type num")))
        empty = Table(NAMES, [], [])
        self.assertEqual(((), (), 0), (empty.kinds, empty.patterns, len(empty)))
        one = Table(NAMES, (), ((),))
        self.assertEqual((((),), 1, 0), (one.patterns, len(one), one.choice(())))

    def test_invalid_kinds(self):
        for kinds in [["pile"], ["type", "pile"], ["type"] * 5, "type", None, 3, True, {"type": 0}, [["type"]], ["Type"], [None]]:
            for patterns in [[], None, [(A,)], 3]:
                self.refused(kinds, patterns, InvalidKinds)
        self.assertEqual(4, len(Table(NAMES, ["type"] * 4, []).kinds))

    def test_numbers_of_patterns(self):
        rows = [terms(f"{k}", "num") for k in range(9)]
        self.assertEqual(8, len(Table(NAMES, ["num"], rows[:8])))
        self.refused(["num"], rows, InvalidPatterns)
        self.refused(["num"], tuple(rows), InvalidPatterns)

    def test_numbers_of_variables(self):
        kinds = ["num", "types", "num", "types"]
        right = terms("#a,(?s,?t,..?r),#b,(..?r)", "num types num types")
        self.assertEqual(1, len(Table(NAMES, kinds, [right])))
        self.refused(kinds, [terms("#a,(..?r),#b,(..?q)", "num types num types")], InvalidPatterns)
        self.refused(["num"] * 4, [terms("#a,#b,#c,#d", "num num num num")], InvalidPatterns)
        self.assertEqual(2, len(table(["#a,#b,#c,#c", "#a,#b,#c,7"], "num num num num")))
        self.assertEqual(1, len(table(["P<?a,?b>,?c,?d,P<?e,?f>"], "type type type type")))

    def test_great_numbers(self):
        for text, right in [("12", True), ("13", False), ("#n+12", True), ("#n+13", False), ("12*#n", True), ("13*#n", False),
                            ("12*#n+12", True), ("11*#n", True), ("1000*#n", False)]:
            rows = [terms(text, "num")]
            if right:
                self.assertEqual(tuple(rows), Table(NAMES, ["num"], rows).patterns)
            else:
                self.refused(["num"], rows, InvalidPatterns)
        for text in ["0,13", "13,0", "#n,13", "0,#n+13", "#n+13,#m", "13,#n+12"]:
            self.refused(["num", "num"], [terms("1,1", "num num"), terms(text, "num num")], InvalidPatterns)

    def test_common_multiple(self):
        for texts, right in [(["3*#n", "4*#n"], True), (["5*#n", "3*#n"], False), (["12*#n", "6*#n", "4*#n"], True),
                             (["5*#n", "2*#n"], True), (["5*#n", "4*#n"], False), (["8*#n", "12*#n"], False)]:
            self.assertEqual(right, self.made(["num"], [terms(text, "num") for text in texts]))
            two = [terms(",".join(texts[:2]), "num num")]
            self.assertEqual(right, self.made(["num", "num"], two))

    def made(self, kinds, patterns):
        try:
            return len(Table(NAMES, kinds, patterns)) == len(patterns)
        except InvalidPatterns as error:
            self.assertIs(patterns, error.given)
            return False

    def test_alike_patterns(self):
        self.refused(["type"], [(("var", "s"),), (("var", "t"),)], InvalidPatterns)
        self.refused(["num"], [(3,), (4,), (3,)], InvalidPatterns)
        self.refused(["types"], [terms("(?x,?x,..?r)", "types"), terms("(?s,?s,..?s1)", "types")], InvalidPatterns)
        self.assertTrue(self.made(["types"], [terms("(?x,?x,..?r)", "types"), terms("(?s,?t,..?s1)", "types")]))

    def test_what_are_no_patterns(self):
        for value in ODD_VALUES:
            if not isinstance(value, (list, tuple)) or value:
                self.refused(["type"], value, InvalidPatterns)
            self.refused(["type"], [(A,), value], InvalidPatterns)
            self.refused(["type"], [(value,)], InvalidPatterns)
        for value in [[[A]], [(A, A)], [(3,)], [()], [(deep(299),)], [(wide(13),)], [(("type", "B", ()),)], {}]:
            self.refused(["type"], value, InvalidPatterns)
        self.refused(["types"], [(wide(13),)], InvalidPatterns)
        self.refused(["types"], [(wide(4999),)], InvalidPatterns)
        self.refused(["type", "num"], [(("var", "t"), ("form", 1, "t", 0))], InvalidPatterns)
        self.refused(["type"], [(type_of("A", A),)], InvalidPatterns)
        self.assertTrue(self.made(["types"], [(wide(12),)]))

    def test_kinds_come_first(self):
        self.refused(["pile"], [(3,), (3,)], InvalidKinds)


class TestChoices(unittest.TestCase):
    def test_takers_and_choices(self):
        made = table(["?x,0", "B<?y>,#n", "?x,#n", "B<A>,0"], "type num")
        for text, takers, choice in [("A,0", [0, 2], 0), ("B<A>,0", [0, 1, 2, 3], 3), ("B<A>,1", [1, 2], 1), ("A,5", [2], 2)]:
            use = terms(text, "type num")
            self.assertEqual((takers, choice), (made.takers(use=use), made.choice(use=use)))
            self.assertIsNot(made.takers(use), made.takers(use))
        use = terms("B<B<A>>,0", "type num")
        error = raised(made.choice, use)
        self.assertEqual((TwoLeast, [0, 1, 2]), (type(error), made.takers(use)))
        self.assertIs(use, error.use)

    def test_no_taker(self):
        for made, use in [(table(["B<?x>"], "type"), (A,)), (table([], "type"), (A,)), (table(["#n+1"], "num"), (0,))]:
            error = raised(made.choice, use)
            self.assertEqual((NoTaker, []), (type(error), made.takers(use)))
            self.assertIs(use, error.use)

    def test_invalid_uses(self):
        made = table(["?t,#n,(..?r)"], "type num types")
        right = terms("A,3,(A)", "type num types")
        self.assertEqual(0, made.choice(right))
        rows = [right[:2], right + (3,), list(right), terms("?t,3,(A)", "type num types"), terms("A,#n,()", "type num types"),
                (A, True, right[2]), (A, 3, wide(4000)), (deep(200), 3, right[2]), (A, -1, right[2]), (A, 10 ** 24 + 1, right[2]),
                (type_of("B"), 3, right[2]), (3, A, right[2])]
        for use in rows + ODD_VALUES:
            for function in [made.takers, made.choice]:
                error = raised(function, use)
                self.assertIs(InvalidUse, type(error))
                self.assertIs(use, error.use if hasattr(error, "use") else error.given)

    def test_strange_names(self):
        made = table(["?x,?x", "?x,?y", "A,?y"], "type type")
        zed, other = type_of("Zed"), type_of("Other")
        self.assertEqual([1, 0], [made.choice((zed, other)), made.choice((zed, zed))])
        self.assertEqual([0, 1, 2], made.takers((A, A)))

    def test_told_uses_are_uses_by_the_names(self):
        # No name that the table is told may serve as a strange one.
        names = Names([("Other", 1), ("Otherb", 2), ("Otherc", 3), ("A", 0)])
        made = table(["?x,A", "A,?y", "?x,?y"], "type type", names)
        self.assertEqual(TwoLeast, type(raised(made.choice, made.two_choices())))
        made = table(["(?x,..?r),(..?s)", "(..?r),(?y,..?s)", "(..?r),(..?s)"], "types types", names)
        self.assertEqual(TwoLeast, type(raised(made.choice, made.two_choices())))
        self.assertEqual(TwoLeast, type(raised(made.choice, raised(made.why_one).use)))

    def test_random_tables(self):
        chance = random.Random(61)
        for _ in range(300):
            made = random_table(chance)
            if made is None:
                continue
            for _ in range(20):
                use = random_use(chance, made.kinds)
                takers, least = plain_choice(made.patterns, use)
                self.assertEqual(takers, made.takers(use))
                if least is None:
                    error = raised(made.choice, use)
                    self.assertEqual((TwoLeast if takers else NoTaker, use), (type(error), error.use))
                else:
                    self.assertEqual(least, made.choice(use))


def random_table(chance):
    """A table by a source of chance, or None where there is none."""
    kinds = [chance.choice(["type", "num", "types"]) for _ in range(chance.randrange(1, 4))]
    rows = [random_pattern(chance, kinds) for _ in range(chance.randrange(7))]
    try:
        return Table(NAMES, kinds, list({write_terms(renamed(row)): row for row in rows}.values()))
    except InvalidPatterns:
        return None


class TestWhyOne(unittest.TestCase):
    def check_one(self, made):
        self.assertIsNone(made.two_choices())
        value = made.why_one()
        self.assertIs(True, is_why_one(table=made, value=value))
        self.assertEqual(value, made.why_one())
        pairs = [(i, j) for i, j in itertools.combinations(range(len(made)), 2)
                 if meet(made.patterns[i], made.patterns[j]) is not None]
        self.assertEqual(pairs, [row[:2] for row in value])
        self.assertEqual([], made.further())
        return value

    def check_two(self, made):
        use = made.two_choices()
        self.assertEqual(use, made.two_choices())
        error = raised(made.why_one)
        self.assertIs(HasTwo, type(error))
        for told in [use, error.use]:
            self.assertIs(TwoLeast, type(raised(made.choice, told)))
        self.assertNotEqual([], made.further())

    def test_each_use_has_one(self):
        for texts, kinds in [([], "type"), (["?t"], "type"), ([""], ""), (["?t", "A", "B<?t>", "B<A>", "B<B<?t>>"], "type"),
                             (["#n", "2*#n", "2*#n+1", "4*#n+1"], "num"), (["A", "B<?t>"], "type"), (["?x,?y", "?x,?x"], "type type"),
                             (["?x,A", "A,?x", "A,A", "?x,?y"], "type type"), (["2*#n", "3*#n", "6*#n"], "num"),
                             (["2*#n", "3*#n", "12*#n", "12*#n+6"], "num"), (["#n+2", "2*#n+1", "2*#n+3"], "num"),
                             (["(..?r)", "()", "(?x,..?r)", "(A,..?r)"], "types"), (["(?x,..?r),#n", "(..?r),0", "(?x),0",
                              "(?x,?y,..?r),0"], "types num"), (["?x,?x,?y", "?y,?x,?x", "?x,?x,?x"], "type type type")]:
            self.check_one(table(texts, kinds))

    def test_others(self):
        for texts, kinds in [(["?x,A", "A,?x"], "type type"), (["2*#n", "3*#n"], "num"), (["2*#n", "3*#n", "12*#n"], "num"),
                             (["#n+2", "2*#n+1"], "num"), (["(..?r),A", "(?x,..?r),?t"], "types type"),
                             (["?x,?x,?y", "?y,?x,?x"], "type type type"), (["?x,0", "B<?y>,#n", "?x,#n"], "type num"),
                             (["(?x,..?r),(..?s)", "(..?r),(?x,..?s)", "(?x,..?r),(?x,..?s)"], "types types"),
                             (["#n,#m+1", "#n+1,#m", "#n+1,#n+1"], "num num")]:
            self.check_two(table(texts, kinds))

    def test_pairs(self):
        made = table(["?t", "B<?t>", "A", "B<A>"], "type")
        right = ((0, 1, ("in", 1)), (0, 2, ("in", 2)), (0, 3, ("in", 3)), (1, 3, ("in", 3)))
        self.assertIs(True, is_why_one(made, right))
        changed = [right[1:], right[:3], right + right[3:], (right[1], right[0], *right[2:]), right[::-1], list(right), (),
                   ((0, 1, ("in", 3)), *right[1:]), ((0, 1, ("in", 0)), *right[1:]), ((1, 0, ("in", 1)), *right[1:]),
                   ((0, 1, ("in", 1), ()), *right[1:]), ((0, 1), *right[1:]), ([0, 1, ("in", 1)], *right[1:]),
                   ((False, 1, ("in", 1)), *right[1:]), ((0, True, ("in", 1)), *right[1:]), ((0, 1, ["in", 1]), *right[1:]),
                   ((0, 1, ("in", True)), *right[1:]), right[:1] + ((1, 2, ("in", 1)),) + right[1:], None, 3, "x", (right,),
                   ((0, 1, None), *right[1:]), (None, *right[1:]), (("0", 1, ("in", 1)), *right[1:]), right[:3] + ((1, 3, ("in", 1)),)]
        for value in changed:
            self.assertIs(False, is_why_one(made, value), value)
        self.assertTrue(is_why_one(table([], "type"), ()))
        self.assertFalse(is_why_one(table([], "type"), []))
        self.assertFalse(is_why_one(table([], "type"), ((0, 1, ("in", 0)),)))

    def test_only_patterns_more_special_than_both(self):
        made = table(["#n,#m", "#n,2*#m", "2*#n,#m", "2*#n,2*#m"], "num num")
        right = self.check_one(made)
        self.assertIn((1, 2, ("in", 3)), right)
        for k in range(3):
            self.assertFalse(is_why_one(made, tuple((1, 2, ("in", k)) if row[:2] == (1, 2) else row for row in right)))
        made = table(["#n,#m", "0,#n", "#m,0", "0,0", "0,#n+1"], "num num")
        self.assertTrue(is_why_one(made, made.why_one()))
        split = ((0, 1, ("num", "v0", 1, 1, (("in", 1), ("in", 4)))),)
        self.assertEqual((0, 1, ("in", 1)), made.why_one()[0])
        self.assertTrue(is_why_one(made, split + made.why_one()[1:]))
        self.assertFalse(is_why_one(made, ((0, 1, ("num", "v0", 1, 1, (("in", 2), ("in", 4)))),) + made.why_one()[1:]))

    def test_trees_for_other_patterns(self):
        made = table(["2*#n", "3*#n", "12*#n", "12*#n+6"], "num")
        value = made.why_one()
        self.assertEqual(("num", "v0", 0, 2, (("in", 2), ("in", 3))), value[0][2])
        for tree in [("num", "v0", 0, 2, (("in", 3), ("in", 2))), ("num", "v0", 0, 1, (("in", 2),)), ("in", 2)]:
            self.assertFalse(is_why_one(made, ((0, 1, tree),) + value[1:]))

    def test_odd_values(self):
        made = table(["?t", "A"], "type")
        self.assertTrue(is_why_one(made, ((0, 1, ("in", 1)),)))
        for value in ODD_VALUES:
            self.assertIs(False, is_why_one(made, value))
            self.assertIs(False, is_why_one(made, (value,)))
            self.assertIs(False, is_why_one(made, ((0, 1, value),)), value)
            self.assertIs(False, is_why_one(made, ((value, 1, ("in", 1)),)))
            self.assertIs(False, is_why_one(made, ((0, value, ("in", 1)),)))

    def test_random_tables(self):
        chance, many = random.Random(62), {True: 0, False: 0}
        for _ in range(300):
            made = random_table(chance)
            if made is None:
                continue
            one = made.two_choices() is None
            many[one] += 1
            if one:
                self.check_one(made)
            else:
                self.check_two(made)
        self.assertGreater(min(many.values()), 30)


class TestFurther(unittest.TestCase):
    def further(self, texts, kinds):
        made = table(texts, kinds)
        found = made.further()
        self.assertEqual(found, made.further())
        self.assertIsNot(found, made.further())
        self.assertEqual(found, [renamed(row) for row in found])
        more = Table(NAMES, made.kinds, [*made.patterns, *found]) if len(made) + len(found) <= 8 else None
        if more is not None:
            self.assertIsNone(more.two_choices())
        return [write_terms(row) for row in found]

    def test_further(self):
        self.assertEqual([], self.further(["?t", "A"], "type"))
        self.assertEqual(["A,A"], self.further(["?x,A", "A,?x"], "type type"))
        self.assertEqual(["B<?v0>,0"], self.further(["?x,0", "B<?y>,#n", "?x,#n"], "type num"))
        self.assertEqual(["6*#v0"], self.further(["2*#n", "3*#n"], "num"))
        self.assertEqual(["6*#v0"], self.further(["2*#n", "3*#n", "12*#n"], "num"))
        self.assertEqual([], self.further(["2*#n", "3*#n", "12*#n", "12*#n+6"], "num"))
        self.assertEqual([], self.further(["10*#n", "10*#n+5", "5*#n"], "num"))

    def test_several_in_the_order_of_texts(self):
        found = self.further(["A,?x,?y", "?x,A,?y", "?x,?y,A"], "type type type")
        self.assertEqual(["?v0,A,A", "A,?v0,A", "A,A,?v0", "A,A,A"], found)
        found = self.further(["2*#n,#m", "#n,3*#m", "#n,#m"], "num num")
        self.assertEqual(["2*#v0,3*#v1"], found)
        found = self.further(["12*#n", "#n+2", "2*#n"], "num")
        self.assertEqual(["12*#v0+12", "2*#v0+2"], found)
        found = self.further(["(?x,..?r),#n", "(..?r),0", "(?x),2*#n", "(..?r),#n+1"], "types num")
        self.assertEqual(["(?v0),0", "(?v0),2*#v1+2", "(?v0,..?v1),#v2+1", "(?v0,..?v1),0"], found)

    def test_meets_that_are_covered(self):
        # No use is taken by the first two patterns alone: their meet is not needed.
        found = self.further(["?x,A,2*#n", "A,?y,#n", "A,A,4*#n", "A,A,4*#n+2"], "type type num")
        self.assertEqual([], found)
        found = self.further(["?x,A,2*#n", "A,?y,#n", "A,A,4*#n"], "type type num")
        self.assertEqual(["A,A,2*#v0"], found)

    def test_random_tables(self):
        chance, many = random.Random(63), 0
        for _ in range(250):
            made = random_table(chance)
            if made is None:
                continue
            found, never = made.further(), made.never()
            texts = [write_terms(row) for row in found]
            self.assertEqual(sorted(set(texts)), texts)
            self.assertEqual(never, sorted(set(never)))
            patterns = [*made.patterns, *found]
            for _ in range(40):
                use = random_use(chance, made.kinds)
                takers, least = plain_choice(made.patterns, use)
                self.assertNotIn(least, never)
                if takers and least is None:
                    many += 1
                    self.assertIn(meet_all([made.patterns[k] for k in takers]), found)
                    least = plain_choice(patterns, use)[1]
                    self.assertEqual(found.index(patterns[least]), least - len(made))
        self.assertGreater(many, 30)


class TestNever(unittest.TestCase):
    def test_never(self):
        for texts, kinds, expected in [
                (["?t", "A"], "type", []), (["#n", "2*#n", "2*#n+1"], "num", [0]), (["?x,A", "A,?x", "A,A"], "type type", []),
                (["(..?r)", "()", "(?x,..?r)"], "types", [0]), ([], "type", []), ([""], "", []),
                (["#n", "2*#n", "4*#n", "4*#n+2", "2*#n+1"], "num", [0, 1]), (["2*#n", "3*#n"], "num", []),
                (["0", "#n", "#n+1"], "num", [1]), (["2*#n", "3*#n", "6*#n", "#n"], "num", []),
                (["?x,0", "?x,#n", "?x,#n+1", "A,#n"], "type num", [1, 3]),
                (["6*#n", "2*#n", "3*#n", "12*#n+6", "12*#n"], "num", [0])]:
            made = table(texts, kinds)
            self.assertEqual(expected, made.never(), texts)
            self.assertIsNot(made.never(), made.never())

    def test_uses_without_a_choice_are_not_counted(self):
        # Each use of the second pattern is taken by the first one, too, and neither is more special.
        self.assertEqual([1], table(["?x,#n+1", "A,#n", "A,0"], "type num").never())

    def test_each_choice_of_some_use(self):
        chance = random.Random(64)
        for _ in range(200):
            rows = [(chance.choice([chance.randrange(6), ("form", chance.choice([1, 2, 3, 6]), "n", chance.randrange(6))]),)
                    for _ in range(7)]
            made = Table(NAMES, ["num"], list({write_terms(row): row for row in rows}.values()))
            chosen = {plain_choice(made.patterns, (n,))[1] for n in range(40)} - {None}
            self.assertEqual(sorted(set(range(len(made))) - chosen), made.never())
            two = [n for n in range(40) if plain_choice(made.patterns, (n,))[0] and plain_choice(made.patterns, (n,))[1] is None]
            self.assertEqual(bool(two), made.two_choices() is not None)
            meets = {write_terms(meet_all([made.patterns[k] for k in plain_choice(made.patterns, (n,))[0]])) for n in two}
            self.assertEqual(sorted(meets), [write_terms(row) for row in made.further()])


if __name__ == "__main__":
    unittest.main()
