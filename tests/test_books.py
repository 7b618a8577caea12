"""Points [181] and [182]: what counts of uses, books, and unlike choices in two views."""

import random
import unittest

from mostspecial.books import book, counts, unlike
from mostspecial.errors import InvalidProgram, InvalidUse, NotApart, TooLong
from mostspecial.instances import instances, roots
from mostspecial.library import Library
from mostspecial.programs import Program
from mostspecial.steps import sort_of
from mostspecial.terms import Names
from mostspecial.termtexts import read_terms
from tests import tools
from tests.makers import RichMaker, ViewsMaker
from tests.readers import Reading
from tests.tools import BASE_NAMES, NarrowStack, ODD_VALUES, deep, program, raised, told, type_of, wide
from tests.trials import MachineMaker, Maker, World, random_library, random_terms

A = type_of("A")
EMPTY = ("list", (), None)
TERM_NAMES = Names([("A", 0), ("B", 1), ("P", 2)])


def library(*rows, views=(("base",), ("more",)), **others):
    return tools.library(*rows, views=views, **others)


class TestCounts(unittest.TestCase):
    def check(self, given, generic, text, expected):
        kinds = {word: kinds for word, kinds, inner in [row for source in given.sources.values() for row in source.generics]}[generic]
        terms = read_terms(text, kinds, TERM_NAMES)
        self.assertEqual(expected, counts(program=given, generic=generic, terms=terms))
        self.assertEqual(expected, counts(given, generic, terms))

    def test_places(self):
        given = program("gen one<>", "gen none<type,num,types>", "gen all<type,num,types,type>", "for all<B<?t>,0,(),?c>", "for all<?t,#n,(..?r),?c>")
        self.check(given, "one", "", "one<>")
        self.check(given, "none", "A,3,(A)", "none<>")
        self.check(given, "all", "P<A,Zed>,17,(A,B<A>),A", "all<P<A,Zed>,17,(A,B<A>)>")
        self.check(given, "all", "A,0,(),B<A>", "all<A,0,()>")

    def test_what_is_handed_on_and_what_stands_twice(self):
        given = program("gen f<type,type,type>", "inner gen g<type>", "for f<?x,?y,?z>", "  const v = g<?y>.v", "for g<A>", "gen h<type,type,type>", "for h<?x,?y,?x>")
        self.check(given, "f", "A,B<A>,A", "f<B<A>>")
        self.check(given, "h", "A,B<A>,A", "h<A,A>")
        self.check(given, "g", "B<A>", "g<B<A>>")

    def test_piles(self):
        given = program("gen f<pile>", "gen g<num,pile,type>", "for g<0,(..?r),?t>", "gen two<pile,type,pile>")
        self.check(given, "f", "()", "f<()>")
        self.check(given, "f", "(B<A>,A)", "f<B<A>>")
        self.check(given, "g", "5,(A),B<A>", "g<5,A>")
        self.check(given, "g", "5,(),B<A>", "g<5,()>")
        # A program may have several piles, of one generic too.
        self.check(given, "two", "(A,B<A>),A,()", "two<A,()>")

    def test_all_texts(self):
        rows = ["gen f<type,type>", "for f<?x,?y>", "  const v = 1"]
        self.check(program(*rows), "f", "A,A", "f<>")
        self.check(program(*rows, main="print 1"), "f", "A,A", "f<>")
        given = program(*rows, main="print 1", own="name Own 1\ngen g<type>\nfor f<?x,B<?y>>\n  const v = g<?x>.v")
        self.check(given, "f", "A,A", "f<A>")
        self.check(given, "g", "A", "g<>")
        given = program(*rows, main="print 1", own="gen g<type>\nfor g<A>\nfor f<?x,B<?y>>\n  const v = g<?x>.v")
        self.check(given, "f", "A,B<A>", "f<A,B<A>>")
        headers = {"base": "\n".join([BASE_NAMES, *rows]), "more": "see base\nfor f<A,?y>"}
        self.assertEqual("f<A>", counts(Program(headers, {"main": "see base\nprint f<A,A>.v"}), "f", (A, A)))

    def test_names_of_all_texts(self):
        given = program("gen f<type>", "for f<A>", own="name Own 1", main="print 1")
        own = type_of("Own", A)
        self.assertEqual("f<Own<A>>", counts(given, "f", (own,)))
        self.assertEqual("f<Any>", counts(given, "f", (type_of("Any"),)))
        for terms in [(type_of("Own"),), (type_of("Any", A),), (type_of("B"),)]:
            self.assertEqual(("InvalidUse", ("f", terms)), told(raised(counts, given, "f", terms)))

    def test_errors(self):
        wrong = Program({"base": "print 1"}, {})
        for value in ODD_VALUES:
            self.assertEqual(("InvalidProgram", [("base", 1, "print")]), told(raised(counts, wrong, value, value)))
        given = program("gen f<type>", "inner gen one<>", "gen num<num,types>", "for f<A>")
        self.assertEqual("one<>", counts(given, "one", ()))
        for value in [*ODD_VALUES, "g", "base"]:
            self.assertIs(InvalidUse, type(raised(counts, given, value, ())))
            error = raised(counts, given, "f", value)
            self.assertEqual((InvalidUse, "f"), (type(error), error.given[0]))
            self.assertIs(value, error.given[1])
        for terms in [(True, EMPTY), (-1, EMPTY), (10 ** 24 + 1, EMPTY), (1, wide(4000)), (("form", 1, "n", 0), EMPTY), (1,), [1, EMPTY], (EMPTY, 1), (1, ("list", (), "r"))]:
            self.assertIs(InvalidUse, type(raised(counts, given, "num", terms)))
        with NarrowStack():
            self.assertEqual(200 * 2 - 1, counts(given, "f", (deep(199),)).count("<") + counts(given, "f", (deep(199),)).count(">") - 1)
            self.assertIs(InvalidUse, type(raised(counts, given, "f", (deep(200),))))


class TestBook(unittest.TestCase):
    ROWS = ("gen f<type,type>", "for f<B<?t>,?c>", "  const v = f<?t,B<?c>>.v", "for f<?t,?c>", "  const v = 1")

    def test_books(self):
        given = program(*self.ROWS, main="print f<B<B<A>>,A>.v\nprint f<B<A>,P<A,A>>.v", none="print 1")
        first = roots(given, "main")
        found = book(program=given, word="main", roots=first, most=9)
        self.assertEqual({"f<B<B<A>>>": ("base", 0), "f<B<A>>": ("base", 0), "f<A>": ("base", 1)}, found)
        self.assertEqual(5, len(instances(given, "main", first, 9)))
        found.clear()
        self.assertEqual(3, len(book(given, "main", tuple(first), 5)))
        self.assertEqual({}, book(given, "main", [], 0))
        self.assertEqual({}, book(given, "none", roots(given, "none"), 0))
        self.assertEqual({"f<A>": ("base", 1)}, book(given, "base", [("f", (A, A)), ("f", (A, type_of("B", A))), ("f", (A, A))], 2))

    def test_errors_of_instances(self):
        rows = [*self.ROWS, "gen g<num>", "for g<#n+1>", "  const v = g<#n>.{}", "for g<2*#n>", "  const w = 1"]
        given = program(*[row.format("v") for row in rows], main="print 1")
        use = ("f", (type_of("B", A), A))
        for value in ODD_VALUES:
            self.assertEqual("InvalidProgram", told(raised(book, program("print 1"), value, value, value))[0])
            self.assertIs(value, raised(book, given, value, [use], 9).given)
            if value != () and value != []:
                self.assertEqual("InvalidRoots", told(raised(book, given, "main", value, value))[0])
            if not isinstance(value, int) or isinstance(value, bool) or value < 0:
                self.assertEqual("InvalidMost", told(raised(book, given, "main", [use], value))[0])
        self.assertEqual(("TooMany", 1), told(raised(book, given, "main", [use], 1)))
        self.assertEqual(("NoChoice", "g", (0,)), told(raised(book, program("gen g<num>", "for g<#n+1>", "  const v = g<#n>.v"), "base", [("g", (3,))], 9)))
        self.assertEqual(("TwoChoices", "g", (2,)), told(raised(book, given, "main", [("g", (2,))], 9)))
        given = program("gen g<num>", "for g<#n+1>", "  const v = g<#n>.w", "for g<0>", "  const w = 1")
        self.assertEqual(("Lacks", "g", (1,), "w", -1), told(raised(book, given, "base", [("g", (2,))], 9)))
        given = program("gen g<num>", "for g<#n>", "  const v = g<10*#n+1>.v")
        self.assertEqual(("TooGreat",), told(raised(book, given, "base", [("g", (10 ** 23,))], 900)))

    PILE = ("gen p<pile>", "for p<(A,A,..?r)>", "  const v = 2", "for p<(..?r)>", "  const v = 1")

    def test_unlike(self):
        # Of a pile only the first item counts, though a pattern of a program may look at more.
        given = program(*self.PILE, main="print p<(A,A)>.v\nprint p<(A)>.v\nprint p<()>.v")
        self.assertEqual(("Unlike", "p<A>"), told(raised(book, given, "main", roots(given, "main"), 9)))
        self.assertEqual({"p<A>": ("base", 1), "p<()>": ("base", 1)}, book(given, "main", [("p", (wide(1),)), ("p", (EMPTY,))], 9))
        self.assertEqual({"p<A>": ("base", 0)}, book(given, "main", [("p", (wide(2),)), ("p", (wide(3),))], 9))

    def test_the_least_string(self):
        a, b = type_of("A"), type_of("B", A)
        items = [("list", row, None) for row in [(b,), (b, b), (a,), (a, a), (type_of("P", a, a), a)]]
        given = program("gen p<pile>", "for p<(?x,?y,..?r)>", "for p<(..?r)>")
        self.assertEqual(("Unlike", "p<A>"), told(raised(book, given, "base", [("p", (row,)) for row in items], 9)))
        self.assertEqual(("Unlike", "p<A>"), told(raised(book, given, "base", [("p", (row,)) for row in items[::-1]], 9)))
        self.assertEqual(("Unlike", "p<B<A>>"), told(raised(book, given, "base", [("p", (row,)) for row in [*items[:3], items[4]]], 9)))
        # The errors of `instances` come first.
        self.assertEqual(("TooMany", 4), told(raised(book, given, "base", [("p", (row,)) for row in items], 4)))
        given = program("gen p<pile>", "for p<(A,A,..?r)>", "for p<(..?r)>", "for p<(?x,..?r)>", "  const v = p<(?x,?x,..?r)>.w")
        self.assertEqual(("Lacks", "p", (wide(2),), "w", -1), told(raised(book, given, "base", [("p", (wide(2),)), ("p", (wide(1),))], 9)))

    def test_uses_with_the_same_string(self):
        given = program(*self.ROWS)
        uses = [("f", (A, type_of("B", A))), ("f", (A, A)), ("f", (A, type_of("Zed")))]
        self.assertEqual({"f<A>": ("base", 1)}, book(given, "base", uses, 3))


class TestUnlike(unittest.TestCase):
    def check(self, given, expected):
        """Check the numbers of the views and the generics that are told, and that they lead to unlike choices."""
        found = unlike(library=given)
        self.assertEqual(found, unlike(given))
        if expected is None or found is None:
            self.assertEqual(expected, found)
            return None
        k, one, j, other = found
        self.assertEqual(expected, (k, one[0], j, other[0]))
        self.prove(given, found)
        return found

    def prove(self, given, found):
        rows = []
        for k, use in [found[:2], found[2:]]:
            world = World(given, k)
            self.assertIn(use[0], world.openly)
            sort_of(given, k, *use)
            rows.append(Reading(world, *use, 400).choices(given))
        self.assertLess(found[0], found[2])
        self.assertTrue(any(text in rows[1] and rows[1][text] != mark for text, mark in rows[0].items()), found)

    def test_at_an_open_use(self):
        rows = ["gen f<type>", "for f<?t>", "  const v = 1"]
        self.check(library(*rows, more="for f<A>"), (0, "f", 1, "f"))
        self.check(library(*rows, more="for f<B<?t>>\n  const v = 2"), (0, "f", 1, "f"))
        self.check(library(*rows, more="name C 0"), None)
        self.check(library(*rows, more="for f<A>", views=[("base",)]), None)
        self.check(library(*rows, more="for f<A>", views=[("more",), ("more",)]), None)
        self.check(Library({}, [(), ()]), None)

    def test_behind_asks(self):
        rows = ["gen f<type>", "inner gen g<type>", "for f<{}>", "  const v = g<{}>.v", "for g<?t>", "  const v = 1"]
        for pattern, term, expected in [("?t", "?t", (0, "f", 1, "f")), ("B<?t>", "?t", (0, "f", 1, "f")), ("?t", "A", (0, "f", 1, "f")), ("?t", "B<A>", None), ("B<A>", "A", (0, "f", 1, "f"))]:
            text = "\n".join(rows).split("{}")
            self.check(library(text[0] + pattern + text[1] + term + text[2], more="for g<A>\n  const v = 2"), expected)

    def test_behind_other_uses_in_each_view(self):
        base = "name A 0\nname B 1\ninner gen g<type>\nfor g<?t>\n  const v = 1"
        one = "see base\ngen f<type>\nfor f<?t>\n  const v = g<?t>.v"
        two = "see base\ngen h<type>\nfor h<?t>\n  const v = k<?t>.v\ninner gen k<type>\nfor k<B<?t>>\n  const v = g<?t>.v\nfor g<A>\n  const v = 2"
        found = self.check(Library({"base": base, "one": one, "two": two}, [("one",), ("two",)]), (0, "f", 1, "h"))
        self.assertEqual(((A,), (type_of("B", A),)), (found[1][1], found[3][1]))

    def test_carried_places(self):
        rows = ["gen f<type,type>", "inner gen g<type,type>", "for f<?t,?c>", "  const v = g<?t,B<?c>>.v", "for g<?t,?c>", "  const v = 1"]
        self.check(library(*rows, more="for g<A,?c>\n  const v = 2"), (0, "f", 1, "f"))
        given = library(*rows, more="for g<A,?c>\n  const v = 2\ngen h<type,num>\nfor h<?t,#n>\n  const v = g<?t,A>.v", views=[("base",), ("more",)])
        self.assertEqual(0, unlike(given)[0])
        self.prove(given, unlike(given))

    def test_piles(self):
        rows = ["gen f<pile>", "for f<(..?r)>", "  const v = 1"]
        self.check(library(*rows, more="for f<()>\n  const v = 1"), (0, "f", 1, "f"))
        self.check(library(*rows, more="for f<(?x,..?r)>\n  const v = 1"), (0, "f", 1, "f"))
        rows = ["gen start<>", "inner gen run<pile>", "for start<>", "  const v = run<({},A)>.v", "for run<(..?r)>", "  const v = 1", "for run<(A,..?r)>", "  const v = run<(..?r)>.v"]
        for item, expected in [("B<A>", (0, "start", 1, "start")), ("P<A,A>", None), ("A", None)]:
            self.check(library(*[row.format(item) for row in rows], more="for run<(B<?x>,..?r)>\n  const v = 2"), expected)
        # In each view other items lie below the first one.
        more = "gen other<type>\nfor other<?t>\n  const v = run<(?t)>.v\nfor run<(B<?x>,..?r)>\n  const v = 2"
        self.check(library(*[row.format("B<P<A,A>>") for row in rows], more=more), (0, "start", 1, "start"))

    def test_names_that_one_view_has(self):
        rows = ["gen f<type>", "for f<?t>", "  const v = 1"]
        self.check(library(*rows, more="name C 0\nfor f<C>\n  const v = 2"), None)
        self.check(library(*rows, more="name C 0\nfor f<P<C,?t>>\n  const v = 2"), None)
        self.check(library("name C 0", *rows, more="for f<C>\n  const v = 2"), (0, "f", 1, "f"))
        self.check(library(*rows, more="name C 0\nfor f<C>\n  const v = 2", other="name D 0\nfor f<D>", views=[("base",), ("more",), ("other",), ("more", "other")]), None)

    def test_a_choice_in_one_view_alone(self):
        self.check(library("gen f<type>", more="for f<?t>\n  const v = 1"), None)
        self.check(library("gen f<type>", "for f<B<?t>>", more="for f<A>\n  const v = 1"), None)
        # In the second view, some uses have two takers and no choice.
        rows = ["gen f<type>", "for f<P<A,?t>>", "  const v = 1"]
        self.check(library(*rows, more="for f<P<?t,A>>\n  const v = 2"), None)
        found = self.check(library("gen f<type,type>", "for f<?s,?t>", more="for f<?s,A>\nfor f<A,?t>"), (0, "f", 1, "f"))
        self.assertEqual([True, False], sorted(term == A for term in found[1][1])[::-1])

    def test_definitions_that_are_never_the_choice(self):
        rows = ["gen f<num>", "for f<2*#n>", "for f<2*#n+1>", "for f<0>"]
        self.check(library(*rows, more="for f<#n>"), None)
        self.check(library(*rows, more="for f<3*#n>"), None)
        self.check(library(*rows, more="for f<4*#n+1>"), (0, "f", 1, "f"))
        # Nobody comes to g<B<?>>.
        self.check(library("gen f<type>", "inner gen g<type>", "for f<?t>", "  const v = g<A>.v", "for g<?t>", "  const v = 1", more="for g<B<?t>>\n  const v = 2"), None)

    def test_definitions_that_are_all_in_one_view_alone(self):
        self.check(library("gen f<type>", one="for f<?t>\n  const v = 1", two="for f<?t>\n  const v = 1", views=[("one",), ("two",)]), (0, "f", 1, "f"))
        self.check(library("gen f<type>", one="for f<A>\n  const v = 1", two="for f<B<?t>>\n  const v = 1", views=[("one",), ("two",)]), None)

    def test_equal_types_tell_apart(self):
        given = library("gen f<type,type>", "for f<?s,?t>", more="for f<?t,?t>")
        found = self.check(given, (0, "f", 1, "f"))
        self.assertEqual(found[1][1][0], found[1][1][1])
        self.check(library("gen f<type,type>", "inner gen g<type,type>", "for f<?s,?t>", "  const v = g<?s,A>.v", "for g<?s,?t>", "  const v = 1", more="for g<?t,?t>\n  const v = 2"), (0, "f", 1, "f"))
        self.check(library("gen f<type,type>", "inner gen g<type,type>", "for f<?s,?t>", "  const v = g<B<A>,A>.v", "for g<?s,?t>", "  const v = 1", more="for g<?t,?t>\n  const v = 2"), None)

    def test_several_pairs_of_views(self):
        rows = ["gen f<type>", "inner gen g<type>", "for f<?t>", "  const v = g<?t>.v", "for g<?t>", "  const v = 1"]
        others = {"more": "for g<A>\n  const v = 2", "other": "for g<B<?t>>\n  const v = 2"}
        found = unlike(library(*rows, **others, views=[("base",), ("base",), ("other",)]))
        self.assertEqual(("f", 2, "B"), (found[1][0], found[2], found[1][1][0][1]))
        self.check(library(*rows, **others, views=[("more",), ("other",), ("more", "other"), ("more",)]), (0, "f", 1, "f"))

    def test_thirty_asks_and_one_more(self):
        down = ["gen start<>", "inner gen count<num,num>", "inner gen end<type>", "for start<>", "  const v = count<{},4>.v", "for count<#a+1,#b>", "  const v = count<#a,#b>.v", "for count<0,#b+1>",
                "  const v = count<6,#b>.v", "for count<0,0>", "  const v = end<A>.v", "for end<?t>", "  const v = 1"]
        near, far = "gen near<>\nfor near<>\n  const v = end<A>.v", "for end<A>\n  const v = 2"
        for first in (0, 1, 2):
            rows = [row.format(first) for row in down]
            for given in [library(*rows, more=far), library(*rows, near=near, more=far, views=[("near",), ("more",)]), library(*rows, near=near, more=far, views=[("more",), ("near",)])]:
                if first == 0:
                    self.check(given, (0, unlike(given)[1][0], 1, unlike(given)[3][0]))
                else:
                    self.assertEqual(("TooLong", 30 + first), told(raised(unlike, given)))
            # In both views there is a near open use.
            both = library(*rows, near=near, more=far, views=[("near",), ("near", "more")])
            self.check(both, (0, "near", 1, "near"))
        # Of the numbers in two views the greater one counts.
        rows = [row for row in down if "start" not in row and "{}" not in row]
        starts = {word: f"gen {word}<>\nfor {word}<>\n  const v = count<{first},4>.v" for word, first in [("one", 1), ("two", 4)]}
        starts["two"] += "\n" + far
        for views in [[("one",), ("two",)], [("two",), ("one",)]]:
            self.assertEqual(("TooLong", 34), told(raised(unlike, library(*rows, **starts, views=views))))
        # A near pair counts ahead of a far one.
        given = library(*[row.format(6) for row in down], more=far, other="for count<3,#b>\n  const v = 2", third="for count<5,4>\n  const v = 7", views=[("base",), ("more",), ("third",)])
        self.check(given, (0, "start", 2, "start"))

    def test_not_apart(self):
        given = library("gen f<type>", "for f<B<?t>>", "  fun go(x) = f<B<B<?t>>>.go(x)", more="for f<A>")
        self.assertEqual(("NotApart", "f", "part"), told(raised(unlike, given)))
        self.assertIs(NotApart, type(raised(unlike, Library({}, []))))
        with NarrowStack():
            self.assertIsNone(unlike(Library({}, [(), ()])))

    def test_by_reading(self):
        chance, counted = random.Random(182), {None: 0, "told": 0}
        while min(counted.values()) < 12 or sum(counted.values()) < 60:
            given = random_library(chance, maker=chance.choice([RichMaker, ViewsMaker, Maker, MachineMaker]))
            if len(given.views) == 1:
                continue
            try:
                found = unlike(given)
            except TooLong:
                continue
            if found is not None:
                counted["told"] += 1
                self.prove(given, found)
                continue
            counted[None] += 1
            if counted[None] > 40:
                continue
            choices = []
            for k in range(len(given.views)):
                world, rows = World(given, k), {}
                for _ in range(15 if world.openly else 0):
                    generic = chance.choice(world.openly)
                    rows.update(Reading(world, generic, random_terms(world, generic, chance), 40).choices(given))
                choices.append(rows)
            for j, rows in enumerate(choices):
                for others in choices[:j]:
                    self.assertEqual([], [text for text in rows if others.get(text, rows[text]) != rows[text]], given.headers)


class TestPrograms(unittest.TestCase):
    def test_invalid_programs(self):
        wrong = program("gen f<type>", main="print f<A,A>.v")
        for call in [(counts, "f", (A,)), (book, "main", [], 3)]:
            self.assertIs(InvalidProgram, type(raised(call[0], wrong, *call[1:])))


if __name__ == "__main__":
    unittest.main()
