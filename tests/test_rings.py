"""Points [171], [172] and [175]: uses for which endlessly many are made, and constants without a value."""

import random
import unittest

from mostspecial.errors import InvalidView, NotApart, TooLong
from mostspecial.library import Library
from mostspecial.rings import endless, no_value
from mostspecial.steps import sort_of
from mostspecial.terms import Names
from mostspecial.walks import walks_of
from tests.makers import OneMachineMaker, RichMaker
from tests.readers import Reading
from tests.tools import NarrowStack, ODD_VALUES, library, raised, told, type_of
from tests.trials import MachineMaker, Maker, World, random_library, random_terms

TERM_NAMES = Names([("A", 0), ("B", 1), ("P", 2)])
A = type_of("A")


# From start on, loop lies behind as many asks as first: count goes from first down to 0, and four times from 6.
def counted(first, *loop, asked="loop<>"):
    return ["gen start<>", "inner gen count<num,num>", "for start<>", f"  const v = count<{first},4>.v", "for count<#a+1,#b>", "  const v = count<#a,#b>.v",
            "for count<0,#b+1>", "  const v = count<6,#b>.v", "for count<0,0>", f"  const v = {asked}.v", *loop]


class Rings(unittest.TestCase):
    def endless(self, given, generic, k=0):
        """Check that endlessly many uses are made for the told use of a generic, or for none if it is None."""
        found = endless(library=given, k=k)
        self.assertEqual(found, endless(given, k))
        self.assertEqual(generic, None if found is None else found[0])
        if found is not None:
            world = World(given, k)
            self.assertIn(generic, world.openly)
            sort_of(given, k, *found)
            self.assertTrue(Reading(world, *found).over, found)
        return found

    def no_value(self, given, generic, k=0):
        """Check that a constant has no value behind the told use of a generic, or behind none if it is None."""
        found = no_value(library=given, k=k)
        self.assertEqual(found, no_value(given, k))
        self.assertEqual(generic, None if found is None else found[0])
        if found is not None:
            world = World(given, k)
            self.assertIn(generic, world.openly)
            sort_of(given, k, *found)
            self.assertIs(True, Reading(world, *found).lacks_value(), found)
        return found

    def rings(self, given, k=0):
        """The generics whose sorts are on rings."""
        return sorted({sort[0] for sort in walks_of(given, k).rings})


class TestGrowingPiles(Rings):
    PILE = ("inner gen run<pile>", "for run<(?x,..?r)>", "  fun go(x) = x", "for run<()>", "  fun go(x) = x", "gen start<types>", "for start<(..?l)>", "  fun go(x) = run<(A,..?l)>.go(x)")

    def test_by_one_item_and_by_several(self):
        for laid in ["(A,A,..?r)", "(A,B<A>,A,..?r)"]:
            self.endless(library(*self.PILE, "for run<(A,..?r)>", f"  fun go(x) = run<{laid}>.go(x)"), "start")
        self.endless(library(*self.PILE, "for run<(A,..?r)>", "  fun go(x) = run<(A,..?r)>.go(x)"), None)
        self.endless(library(*self.PILE, "for run<(A,..?r)>", "  fun go(x) = run<(..?r)>.go(x)"), None)
        self.endless(library(*self.PILE, "for run<(A,..?r)>", "  fun go(x) = run<(B<A>,A,..?r)>.go(x)"), None)

    def test_bare_piles(self):
        rows = ["gen run<pile>", "for run<(..?r)>", "  fun go(x) = run<{}>.go(x)"]
        for laid, generic in [("(A,..?r)", "run"), ("(..?r)", None), ("(A,A)", None), ("()", None)]:
            self.endless(library(*[row.format(laid) for row in rows]), generic)

    def test_laid_and_taken_off_again(self):
        rows = ["for run<(A,..?r)>", "  fun go(x) = run<(B<A>,A,..?r)>.go(x)", "for run<(B<A>,..?r)>", "  fun go(x) = run<(..?r)>.go(x)"]
        given = library(*self.PILE, *rows)
        self.endless(given, None)
        self.assertEqual(["run"], self.rings(given))
        # Here one of two items is taken off again, and here both are, by a way that goes through another generic.
        self.endless(library(*self.PILE, rows[0], "  fun go(x) = run<(B<A>,A,A,..?r)>.go(x)", *rows[2:]), "start")
        more = ["inner gen off<pile>", "for off<(?x,..?r)>", "  fun go(x) = run<(..?r)>.go(x)", "for off<()>", "  fun go(x) = x"]
        self.endless(library(*self.PILE, rows[0], "  fun go(x) = run<(B<A>,B<A>,A,..?r)>.go(x)", rows[2], "  fun go(x) = off<(..?r)>.go(x)", *more), None)

    def test_an_unknown_item_that_is_laid_again(self):
        rows = ["gen run<pile>", "for run<()>", "  fun go(x) = x", "for run<(?x,..?r)>"]
        self.endless(library(*rows, "  fun go(x) = run<(?x,A,..?r)>.go(x)"), "run")
        self.endless(library(*rows, "  fun go(x) = run<(A,?x,..?r)>.go(x)"), "run")
        # What is taken apart ends, but what is laid aside with it is known.
        self.endless(library(*rows[:3], "for run<(B<?x>,..?r)>", "  fun go(x) = run<(?x,A,..?r)>.go(x)", "for run<(?x,..?r)>", "  fun go(x) = run<(..?r)>.go(x)"), None)
        self.endless(library(*rows[:3], "for run<(B<?x>,..?r)>", "  fun go(x) = run<(?x,B<A>,..?r)>.go(x)", "for run<(?x,..?r)>", "  fun go(x) = run<(..?r)>.go(x)"), None)
        self.endless(library(*rows[:3], "for run<(B<?x>,..?r)>", "  fun go(x) = run<(?x,B<A>,B<A>,..?r)>.go(x)", "for run<(?x,..?r)>", "  fun go(x) = run<(..?r)>.go(x)"), "run")

    def test_an_unknown_item_under_a_bare_pile(self):
        rows = ["gen run<pile,type>", "for run<(),?c>", "  fun go(x) = x", "for run<(..?r),?c>", "  fun go(x) = run<{}>.go(x)"]
        for term, expected in [("(..?r),B<?c>", "run"), ("(..?r),?c", None), ("(A,..?r),A", "run"), ("(A,A),B<?c>", "run"), ("(),B<?c>", None)]:
            given = library(*[row.format(term) for row in rows])
            self.endless(given, expected)
        # What is not laid is not handed on: so only the sort with A is on a ring.
        given = library(*[row.format("(A,A),B<?c>") for row in rows])
        self.assertEqual([sort_of(given, 0, "run", (("list", (A,), None), A))], list(walks_of(given, 0).rings))

    def test_items_that_stay_laid_until_a_pile_is_begun(self):
        rows = ["gen run<pile,type>", "inner gen mid<type>", "for run<(A,..?r),?c>", "  fun go(x) = run<(B<A>,{}..?r),?c>.go(x)", "for run<(B<A>,..?r),?c>", "  fun go(x) = {}.go(x)",
                "for run<(..?r),?c>", "  fun go(x) = x", "for mid<?c>", "  fun go(x) = run<(A),{}>.go(x)"]
        for laid, use, carried, expected in [("A,", "mid<?c>", "?c", None), ("", "mid<?c>", "?c", None), ("A,", "mid<?c>", "B<?c>", "run"), ("A,", "run<(..?r),?c>", "?c", None), ("A,A,", "run<(..?r),?c>", "?c", "run")]:
            text = "\n".join(rows).split("{}")
            given = library(text[0] + laid + text[1] + use + text[2] + carried + text[3])
            self.endless(given, expected)
            self.assertIn("run", self.rings(given))

    def test_begun_and_beside_on_the_ring(self):
        begun = ["inner gen once<>", "for once<>", "  fun go(x) = run<(A,A)>.go(x)", "for run<(A,..?r)>", "  fun go(x) = once<>.go(x)"]
        given = library(*self.PILE, *begun)
        self.endless(given, None)
        self.assertEqual(["once", "run"], self.rings(given))
        rows = ["gen w<types,pile>", "for w<(..?l),(..?r)>", "  fun go(x) = w<(),{}>.go(x)"]
        for laid, generic in [("(A,A,..?l)", None), ("(A,..?r)", "w"), ("(..?r)", None), ("(A,A)", None)]:
            given = library(*[row.format(laid) for row in rows])
            self.endless(given, generic)
            self.assertEqual(["w"], self.rings(given))

    def test_from_one_pile_to_another(self):
        rows = ["gen one<pile>", "inner gen two<pile>", "for one<()>", "  fun go(x) = x", "for one<(?x,..?r)>", "  fun go(x) = {}.go(x)", "for two<()>", "  fun go(x) = x",
                "for two<(?x,..?r)>", "  fun go(x) = {}.go(x)"]
        for one, two, generic in [("two<(A,?x,..?r)>", "one<(?x,..?r)>", "one"), ("two<(A,..?r)>", "one<(..?r)>", None), ("two<(?x,..?r)>", "one<(?x,..?r)>", None),
                                  ("two<(A,?x,..?r)>", "one<(..?r)>", None), ("two<(A,B<A>,?x,..?r)>", "one<(..?r)>", "one")]:
            text = "\n".join(rows).split("{}")
            self.endless(library(text[0] + one + text[1] + two + text[2]), generic)


class TestGrowingCarried(Rings):
    def test_one_place(self):
        for generic, term, expected in [("f<type,type>", "B<?c>", "f"), ("f<type,type>", "?c", None), ("f<type,type>", "A", None), ("f<type,type>", "P<?c,A>", "f"),
                                        ("f<type,type>", "P<?t,?t>", None), ("f<type,num>", "#c+1", "f"), ("f<type,num>", "#c", None), ("f<type,num>", "7", None),
                                        ("f<type,types>", "(A,..?c)", "f"), ("f<type,types>", "(..?c)", None), ("f<type,types>", "(A)", None)]:
            kind = generic[7:-1]
            bare = {"type": "?c", "num": "#c", "types": "(..?c)"}[kind]
            rows = [f"gen {generic}", f"for f<B<?t>,{bare}>", f"  fun go(x) = f<B<?t>,{term}>.go(x)", f"for f<?t,{bare}>", "  fun go(x) = x"]
            given = library(*rows)
            self.endless(given, expected)
            self.assertEqual(["f"], self.rings(given))

    def test_places_that_change_places(self):
        rows = ["gen f<type,type,type>", "for f<B<?t>,?a,?b>", "  fun go(x) = f<B<?t>,{}>.go(x)", "for f<?t,?a,?b>", "  fun go(x) = x"]
        for terms, expected in [("?b,B<?a>", "f"), ("?b,?a", None), ("B<?b>,A", None), ("B<?b>,?a", "f"), ("A,B<?b>", "f"), ("P<?a,?b>,A", "f"), ("A,P<A,?a>", None), ("B<?b>,?b", "carried")]:
            text = [row.format(terms) for row in rows]
            if expected == "carried":
                self.assertEqual(("NotApart", "f", "carried"), told(raised(endless, library(*text), 0)))
            else:
                self.endless(library(*text), expected)

    def test_over_several_generics(self):
        rows = ["gen f<type,type>", "inner gen g<type,type>", "for f<B<?t>,?c>", "  fun go(x) = g<B<?t>,{}>.go(x)", "for f<?t,?c>", "  fun go(x) = x", "for g<?t,?c>", "  fun go(x) = f<?t,{}>.go(x)"]
        for one, two, expected in [("?c", "?c", None), ("B<?c>", "?c", "f"), ("?c", "B<?c>", "f"), ("B<?c>", "A", None), ("A", "B<?c>", None)]:
            text = "\n".join(rows).split("{}")
            self.endless(library(text[0] + one + text[1] + two + text[2]), expected)

    def test_what_is_not_still(self):
        # What is taken apart is taken apart only finitely often, and what is dropped is not there again.
        for term, expected in [("?t", None), ("B<?t>", "f"), ("A", None), ("B<A>", "f")]:
            given = library("gen f<type,type>", "for f<B<?t>,?c>", f"  fun go(x) = f<{term},B<?c>>.go(x)", "for f<?t,?c>", "  fun go(x) = x")
            self.endless(given, expected)
        # Of two types that are looked at, both must go on whole, or be known.
        rows = ["gen f<type,type,type>", "for f<B<?s>,B<?t>,?c>", "  fun go(x) = f<{},B<?c>>.go(x)", "for f<?s,?t,?c>", "  fun go(x) = x"]
        for terms, expected in [("B<?s>,B<?t>", "f"), ("B<?t>,B<?s>", "f"), ("B<?s>,?t", None), ("?t,B<?s>", None), ("B<A>,B<?t>", "f"), ("B<A>,?t", None), ("B<A>,B<A>", "f")]:
            self.endless(library(*[row.format(terms) for row in rows]), expected)

    def test_what_is_known(self):
        # In f<A,..> the type is known, so it need not be handed on.
        rows = ["gen f<type,num>", "inner gen g<num>", "for f<A,#n>", "  fun go(x) = g<#n>.go(x)", "for f<?t,#n>", "  fun go(x) = x"]
        self.endless(library(*rows, "for g<#n>", "  fun go(x) = f<A,#n+1>.go(x)"), "f")
        self.endless(library(*rows, "for g<#n>", "  fun go(x) = f<B<A>,#n+1>.go(x)"), None)
        # Numbers below the bound are known, greater ones are not.
        rows = ["gen f<num,type>", "for f<#n+2,?c>", "  fun go(x) = f<{},B<?c>>.go(x)", "for f<#n,?c>", "  fun go(x) = x"]
        for term, expected in [("#n+2", "f"), ("#n+1", None), ("2", "f"), ("5", "f"), ("1", None)]:
            self.endless(library(*[row.format(term) for row in rows]), expected)
        rows = ["gen f<types,type>", "for f<(?x,..?r),?c>", "  fun go(x) = f<{},B<?c>>.go(x)", "for f<(),?c>", "  fun go(x) = x"]
        for term, expected in [("(?x,..?r)", "f"), ("(..?r)", None), ("(A,B<A>)", "f"), ("()", None)]:
            self.endless(library(*[row.format(term) for row in rows]), expected)

    def test_several_uses_of_one_sort(self):
        for one, two, expected in [("?c", "B<?c>", "f"), ("B<?c>", "?c", "f"), ("?c", "A", None), ("B<?c>", "A", "f"), ("A", "B<A>", None)]:
            given = library("gen f<type,type>", "for f<?t,?c>", f"  fun go(x) = f<?t,{one}>.go(x)+f<?t,{two}>.go(x)")
            self.endless(given, expected)

    # The way out of A goes on through that of B<A>, and both are gone before P<A,A> lays A once more.
    FURTHER = ["gen start<type,type>", "inner gen run<num,pile,type,type>", "for start<?c,?d>", "  fun go(x) = run<0,(P<A,A>),?c,?d>.go(x)", "for run<0,(P<A,A>,..?r),?c,?d>",
               "  fun go(x) = run<1,(A,P<A,A>,..?r),?c,?d>.go(x)", "for run<1,(A,..?r),?c,?d>", "  fun go(x) = run<2,({}..?r),{}>.go(x)", "for run<2,(B<A>,..?r),?c,?d>", "  fun go(x) = run<3,(..?r),{}>.go(x)",
               "for run<3,(P<A,A>,..?r),?c,?d>", "  fun go(x) = run<0,(P<A,A>,..?r),{}>.go(x)", "for run<3,(B<A>,..?r),?c,?d>", "  fun go(x) = run<2,(B<A>,..?r),?c,?d>.go(x)", "for run<#n,(..?r),?c,?d>",
               "  fun go(x) = x"]

    def test_on_ways_that_come_by_further_ways(self):
        for laid, one, two, three, expected in [("B<A>,", "?c,?d", "?c,?d", "?c,?d", None), ("B<A>,", "B<?c>,?d", "?c,?d", "?c,?d", "start"), ("B<A>,", "?c,?d", "?c,B<?d>", "?c,?d", "start"),
                                                ("B<A>,", "?d,?c", "?c,?d", "?d,?c", None), ("B<A>,", "B<?d>,?c", "?c,?d", "?d,?c", "start"), ("B<A>,", "B<?d>,A", "?c,?d", "?c,?d", None),
                                                ("B<A>,", "B<?d>,A", "?d,?c", "?c,?d", "start"), ("B<A>,", "B<?c>,?d", "A,?d", "?c,?d", None), ("B<A>,B<A>,", "?c,?d", "?c,?d", "?c,?d", None),
                                                ("B<A>,B<A>,", "?c,?d", "?c,B<?d>", "?c,?d", "start"), ("B<A>,B<A>,", "B<?c>,?d", "?d,A", "?c,?d", None), ("B<A>,B<A>,", "A,?d", "?d,B<?c>", "?c,?d", "start"),
                                                ("B<A>,B<A>,B<A>,", "A,?d", "?d,B<?c>", "?c,?d", None)]:
            text = "\n".join(self.FURTHER).split("{}")
            given = library(text[0] + laid + text[1] + one + text[2] + two + text[3] + three + text[4])
            self.endless(given, expected)
            self.assertEqual(["run"], self.rings(given))
            # The same with the definitions in another order.
            lines = (text[0] + laid + text[1] + one + text[2] + two + text[3] + three + text[4]).split("\n")
            heads = [at for at, line in enumerate(lines) if line.startswith("for")]
            blocks = [lines[at:at + 2] for at in heads]
            self.endless(library(*lines[:2], *[line for block in blocks[::-1] for line in block]), expected)

    def test_on_ways_out_of_piles(self):
        rows = ["gen start<type>", "inner gen run<pile,type>", "for start<?c>", "  fun go(x) = run<(A,P<A,A>),?c>.go(x)", "for run<(A,..?r),?c>", "  fun go(x) = run<(B<A>,A,..?r),{}>.go(x)",
                "for run<(B<A>,..?r),?c>", "  fun go(x) = run<(..?r),{}>.go(x)", "for run<(..?r),?c>", "  fun go(x) = x"]
        for one, two, expected in [("?c", "?c", None), ("B<?c>", "?c", "start"), ("?c", "B<?c>", "start"), ("A", "B<?c>", None)]:
            text = "\n".join(rows).split("{}")
            given = library(text[0] + one + text[1] + two + text[2])
            self.endless(given, expected)
            self.assertEqual(["run"], self.rings(given))


class TestWhere(Rings):
    def test_views(self):
        rows = ["gen f<type,type>", "inner gen g<type>", "for f<?t,?c>", "  fun go(x) = x", "for g<?t>", "  fun go(x) = g<B<?t>>.go(x)"]
        given = library(*rows, more="for f<B<?t>,?c>\n  fun go(x) = g<?c>.go(x)", views=[("base",), ("more",), ()])
        self.endless(given, None)
        self.endless(given, "f", 1)
        self.endless(given, None, 2)
        self.assertEqual([[], ["g"]], [self.rings(given, k) for k in (0, 1)])

    def test_thirty_asks_and_one_more(self):
        loop = ["inner gen loop<type>", "for loop<?c>", "  const v = loop<B<?c>>.v"]
        for first in (0, 1, 2):
            given = library(*counted(first, *loop, asked="loop<A>"))
            if first == 0:
                self.endless(given, "start")
                self.no_value(given, "start")
            else:
                for function in (endless, no_value):
                    self.assertEqual(("TooLong", 30 + first), told(raised(function, given, 0)))
        # A ring that lies nearer counts, though one that lies too far away is there, too.
        near = ["gen near<type>", "for near<B<?c>>", "  const v = loop<?c>.v", "for near<?c>", "  const v = 1"]
        self.endless(library(*counted(5, *loop, asked="loop<A>"), *near), "near")
        # Nothing grows on this ring: it is too far away for `no_value` alone.
        given = library(*counted(1, "inner gen loop<>", "for loop<>", "  const v = loop<>.v"))
        self.endless(given, None)
        self.assertEqual(("TooLong", 31), told(raised(no_value, given, 0)))

    def test_errors(self):
        given = library("gen f<type>", "for f<B<?t>>", "  fun go(x) = f<?t>.go(x)")
        wrong = library("gen f<type>", "for f<B<?t>>", "  fun go(x) = f<B<B<?t>>>.go(x)")
        for function in (endless, no_value):
            for value in [*ODD_VALUES, 1, 7, -1, 10 ** 30]:
                for one in (given, wrong):
                    error = raised(function, one, value)
                    self.assertIs(InvalidView, type(error))
                    self.assertIs(value, error.given)
            self.assertEqual(("NotApart", "f", "part"), told(raised(function, wrong, 0)))
            self.assertEqual(("InvalidView", 0), told(raised(function, Library({}, []), 0)))
            with NarrowStack():
                self.assertIsNone(function(given, 0))


class TestConstants(Rings):
    def test_one_constant(self):
        for term, expected in [("f<B<?t>>.v", "f"), ("f<?t>.v", None), ("f<B<A>>.v", "f"), ("f<A>.v", None), ("f<B<?t>>.w", None), ("1+w*(2-f<B<?t>>.v)", "f")]:
            self.no_value(library("gen f<type>", "for f<B<?t>>", "  const w = 1", f"  const v = {term}", "for f<?t>", "  const v = 1"), expected)

    def test_several_constants(self):
        rows = ["gen f<type>", "inner gen g<type>", "for f<?t>", "  const v = g<?t>.w", "  const w = 1", "for g<?t>", "  const w = g<?t>.u", "  const u = f<?t>.{}"]
        self.no_value(library(*[row.format("v") for row in rows]), "f")
        given = library(*[row.format("w") for row in rows])
        self.no_value(given, None)
        self.endless(given, None)
        self.assertEqual(["f", "g"], self.rings(given))

    def test_by_name_within_a_definition(self):
        rows = ["gen f<>", "for f<>", "  const v = {}", "  const w = u+1", "  const u = 2*f<>.{}"]
        for one, two, expected in [("w", "v", "f"), ("1", "v", None), ("w", "w", "f"), ("1", "u", "f"), ("u", "v", "f"), ("w+1", "v", "f")]:
            text = "\n".join(rows).split("{}")
            self.no_value(library(text[0] + one + text[1] + two + text[2]), expected)

    def test_by_the_name_of_one_of_several_that_ask(self):
        rows = ["gen f<>", "inner gen g<>", "for f<>", "  const v = g<>.x", "  const w = g<>.{}", "  const u = {}", "for g<>", "  const x = f<>.{}", "  const y = 1"]
        for asked, named, back, expected in [("x", "v", "u", "f"), ("x", "w", "u", "f"), ("x", "v+w", "u", "f"), ("y", "v", "u", "f"), ("y", "w", "u", None), ("x", "1", "u", None), ("y", "1", "w", None)]:
            text = "\n".join(rows).split("{}")
            self.no_value(library(text[0] + asked + text[1] + named + text[2] + back + text[3]), expected)

    def test_a_constant_that_asks_for_one_on_a_ring(self):
        rows = ["gen f<type>", "inner gen g<>", "for f<B<?t>>", "  const v = g<>.v", "for f<?t>", "  const v = 1", "for g<>", "  const v = g<>.v"]
        found = self.no_value(library(*rows), "f")
        self.assertEqual("B", found[1][0][1])
        # It is not asked for the constant on the ring, but all constants must have values.
        self.no_value(library(*rows[:3], "  fun go(x) = g<>.go(x)", *rows[4:], "  fun go(x) = 1"), "f")
        self.no_value(library(*rows[:3], "  fun go(x) = 1", *rows[4:]), None)

    def test_functions_on_the_ring(self):
        for rows in [["for f<>", "  fun v() = f<>.v()"], ["for f<>", "  fun v() = f<>.w", "  const w = 1"], ["for f<>", "  fun v() = f<>.w+v()", "  const w = 2*f<>.u", "  const u = 3"]]:
            given = library("gen f<>", *rows)
            self.no_value(given, None)
            self.assertEqual(["f"], self.rings(given))

    def test_behind_a_pile(self):
        rows = ["gen start<type>", "inner gen run<pile>", "for start<?t>", "  const v = run<(?t,B<A>)>.v", "for run<(A,..?r)>", "  const v = run<(..?r)>.v", "  const w = 1",
                "for run<(B<A>,..?r)>", "  const v = run<(A,B<A>,..?r)>.{}", "  const w = 1", "for run<(..?r)>", "  const v = 1", "  const w = 2"]
        self.no_value(library(*[row.format("v") for row in rows]), "start")
        given = library(*[row.format("w") for row in rows])
        self.no_value(given, None)
        self.endless(given, None)
        # The way back from A asks for w, whether it is asked for v or for w.
        rows[5] = "  const v = run<(..?r)>.w"
        self.no_value(library(*[row.format("v") for row in rows]), None)
        rows[9] = "  const w = run<(A,B<A>,..?r)>.v"
        self.no_value(library(*[row.format("v") for row in rows]), "start")

    def test_endless_but_with_values_and_the_other_way_round(self):
        given = library("gen f<type>", "for f<?t>", "  const v = 1", "  fun go(x) = f<B<?t>>.go(x)")
        self.endless(given, "f")
        self.no_value(given, None)
        given = library("gen f<type>", "for f<?t>", "  const v = f<?t>.v")
        self.endless(given, None)
        self.no_value(given, "f")
        given = library("gen f<type>", "for f<?t>", "  const v = f<B<?t>>.v")
        self.endless(given, "f")
        self.no_value(given, "f")

    def test_uses_that_go_badly_have_values(self):
        given = library("gen f<type>", "for f<B<?t>>", "  const v = f<?t>.w")
        self.no_value(given, None)
        self.no_value(library("gen f<type>"), None)

    def test_thirty_asks_and_one_more(self):
        for first in (0, 1, 2):
            given = library(*counted(first, "inner gen loop<>", "inner gen other<>", "for loop<>", "  const v = other<>.v", "for other<>", "  const v = loop<>.v"))
            if first == 0:
                self.no_value(given, "start")
            else:
                self.assertEqual(("TooLong", 30 + first), told(raised(no_value, given, 0)))


class TestByReading(Rings):
    def check(self, given, chance):
        for k in range(len(given.views)):
            world = World(given, k)
            kinds = []
            for check, function in [(self.endless, endless), (self.no_value, no_value)]:
                try:
                    found = function(given, k)
                except TooLong:
                    continue
                check(given, None if found is None else found[0], k)
                kinds.extend([] if found is not None else [function])
            for _ in range(8 if world.openly else 0):
                generic = chance.choice(world.openly)
                made = Reading(world, generic, random_terms(world, generic, chance), 300)
                if endless in kinds:
                    self.assertFalse(made.over, given.headers)
                if no_value in kinds and not made.over:
                    self.assertIsNot(True, made.lacks_value(), given.headers)

    def test_by_reading(self):
        chance = random.Random(171)
        for maker in [RichMaker] * 30 + [Maker] * 10 + [MachineMaker] * 10 + [OneMachineMaker] * 10:
            self.check(random_library(chance, maker=maker), chance)


class TestAnyLibrary(Rings):
    def test_equal_answers(self):
        rows = ["gen f<type,type>", "for f<B<?t>,?c>", "  const v = f<B<?t>,B<?c>>.v", "for f<?t,?c>", "  const v = 1"]
        one = library(*rows)
        first = [endless(one, 0), no_value(one, 0)]
        other = library("gen f<type,type>", "for f<P<?s,?t>,?c>", "  const v = f<P<?s,?t>,B<?c>>.v", "for f<?t,?c>", "  const v = 1")
        self.assertNotEqual(first, [endless(other, 0), no_value(other, 0)])
        self.assertEqual(first, [endless(one, 0), no_value(one, 0)])
        again = library(*rows)
        self.assertEqual(first, [endless(again, 0), no_value(again, 0)][::1])
        self.assertEqual(first[::-1], [no_value(library(*rows), 0), endless(library(*rows), 0)])
        self.assertIs(NotApart, type(raised(endless, library("gen f<pile,pile>"), 0)))


if __name__ == "__main__":
    unittest.main()
