"""Point [173]: open uses that go well."""

import random
import unittest

from mostspecial.errors import InvalidView, TooLong
from mostspecial.steps import sort_of
from mostspecial.walks import walks_of
from mostspecial.well import asks_two, some_well
from tests.makers import CallMaker, OneMachineMaker, OneMaker
from tests.readers import Reading
from tests.tools import NarrowStack, ODD_VALUES, library, raised, told, type_of
from tests.trials import World, random_library, random_terms

A = type_of("A")


def least_asks(given, k, world, made):
    """The least number of asks behind which a use asks nothing, or is of a sort on a ring."""
    rings, found = walks_of(given, k).rings, []
    for generic, terms, choice, asks in made.made.values():
        if not world.asked(generic, terms)[1] or sort_of(given, k, generic, terms) in rings:
            found.append(asks)
    return min(found)


class Well(unittest.TestCase):
    def well(self, given, expected, k=0):
        """Check that the told use goes well, and after how many asks it ends or goes round; None if there is none."""
        found = some_well(library=given, k=k)
        self.assertEqual(found, some_well(given, k))
        if expected is None or found is None:
            self.assertEqual(expected, found)
            return None
        world = World(given, k)
        self.assertIn(found[0], world.openly)
        sort_of(given, k, *found)
        made = Reading(world, *found)
        self.assertTrue(made.goes_well(), found)
        self.assertEqual(expected, least_asks(given, k, world, made))
        return found


class TestEnded(Well):
    def test_none_goes_well(self):
        self.well(library(), None)
        self.well(library("gen f<type>"), None)
        self.well(library("inner gen f<type>", "for f<?t>"), None)
        self.well(library("gen f<type>", "for f<B<?t>>", "  const v = f<?t>.v"), None)
        self.well(library("gen f<type>", "for f<?t>", "  fun go(x) = f<B<?t>>.go(x)"), None)
        self.well(library("gen f<type>", "for f<?t>", "  const v = f<?t>.v"), None)

    def test_at_once(self):
        self.well(library("gen f<>", "for f<>"), 0)
        self.well(library("gen f<type>", "for f<P<A,B<?t>>>", "  const v = 1"), 0)
        self.well(library("gen f<type>", "for f<?t>", "  const v = f<?t>.w", "for f<B<B<?t>>>", "  const v = 2"), 0)
        self.well(library("gen f<pile>", "for f<(B<?x>,..?r)>", "  const v = 1", "for f<(?x,..?r)>", "  const v = f<(..?r)>.v"), 0)
        self.well(library("gen f<num,num>", "for f<2*#n,3>"), 0)

    def test_behind_asks(self):
        self.well(library("gen f<type>", "inner gen g<type>", "for f<B<?t>>", "  const v = g<?t>.v", "for g<P<?s,?t>>", "  const v = g<?t>.v", "for g<A>", "  const v = 1"), 1)
        rows = ["gen start<types>", "inner gen run<num,pile>", "for start<(..?l)>", "  const v = run<0,(..?l)>.v", "for run<0,(A,..?r)>", "  const v = run<1,(..?r)>.v",
                "for run<1,(B<?x>,..?r)>", "  const v = run<2,(?x,..?r)>.v", "for run<2,(P<?x,?y>,..?r)>", "  const v = run<3,(?y,..?r)>.v", "for run<3,(A,..?r)>", "  const v = 1+run<4,(..?r)>.v",
                "for run<4,()>", "  const v = 7"]
        found = self.well(library(*rows), 5)
        items = found[1][0][1]
        self.assertEqual((A, "B", "P"), (items[0], items[1][1], items[1][2][0][1]))
        self.assertEqual(2, len(items))

    def test_members_that_are_lacked(self):
        rows = ["gen f<type>", "inner gen g<type>", "for f<?t>", "  const v = g<?t>.v", "  fun go(x) = g<?t>.go(x)", "for g<A>", "  const v = 1", "for g<B<?t>>", "  const w = 1", "  fun go(x) = x"]
        self.well(library(*rows), None)
        found = self.well(library(*rows, "for g<P<?s,?t>>", "  fun go(x) = 2*x", "  const v = 1"), 1)
        self.assertEqual("P", found[1][0][1])
        # A function with another number of parameters is another member.
        self.well(library(*rows, "for g<P<?s,?t>>", "  fun go(x,y) = 2*x", "  const v = 1"), None)
        # Nobody asks the open use itself for anything.
        self.well(library("gen f<type>", "for f<?t>", "  fun no() = 1"), 0)

    def test_members_that_are_lacked_behind_ways(self):
        rows = ["gen start<type>", "inner gen run<pile>", "for start<?t>", "  const v = run<(?t,A)>.v", "for run<(B<?x>,..?r)>", "  const v = run<(..?r)>.w", "for run<(P<?x,?y>,..?r)>",
                "  const v = run<(..?r)>.v", "for run<(A,..?r)>", "  const {} = 1"]
        for word, name in [("w", "B"), ("v", "P")]:
            found = self.well(library(*[row.format(word) for row in rows]), 2 if word == "w" else 1)
            self.assertEqual(name if word == "w" else "A", found[1][0][1])
        self.well(library(*[row.format("u") for row in rows]), None)

    def test_uses_without_one_choice(self):
        rows = ["gen f<type,type>", "for f<A,?t>", "  const v = 1", "for f<?t,A>", "  const v = 1", "for f<?s,?t>", "  const v = f<?s,?t>.w"]
        found = self.well(library(*rows), 0)
        self.assertNotEqual((A, A), found[1])
        self.assertIn(A, found[1])
        # Here only uses with the same type twice have a choice that asks nothing.
        same = ["gen f<type,type>", "for f<?s,?t>", "  const v = h<?s>.v", "for f<?t,?t>", "  const v = 1", "inner gen h<type>"]
        found = self.well(library(*same), 0)
        self.assertEqual(found[1][0], found[1][1])

    def test_of_a_view(self):
        rows = ["gen f<type>", "for f<B<?t>>", "  const v = f<?t>.v"]
        given = library(*rows, more="name C 0\nfor f<C>\n  const v = 1", views=[("base",), ("more",)])
        self.well(given, None)
        self.assertEqual(("f", (type_of("C"),)), self.well(given, 0, 1))


class TestRings(Well):
    def test_nothing_grows(self):
        for term, expected in [("f<?t,?c>.go(x)", 0), ("f<?t,B<?c>>.go(x)", None), ("f<?t,A>.go(x)", 0), ("f<A,?c>.go(x)", 0)]:
            self.well(library("gen f<type,type>", "for f<?t,?c>", f"  fun go(x) = {term}"), expected)
        self.well(library("gen f<type>", "for f<?t>", "  const v = f<?t>.v"), None)
        self.well(library("gen f<type>", "for f<?t>", "  const v = f<?t>.w", "  const w = 1"), 0)

    def test_a_ring_behind_asks(self):
        rows = ["gen start<type>", "inner gen run<type,pile>", "for start<B<B<?t>>>", "  fun go(x) = run<?t,()>.go(x)", "for run<A,()>", "  fun go(x) = run<A,(A,B<A>)>.go(x)",
                "for run<A,(A,..?r)>", "  fun go(x) = run<A,(..?r)>.go(x)", "for run<A,(B<A>,..?r)>", "  fun go(x) = run<A,{}>.go(x)"]
        for laid, expected in [("(..?r)", 1), ("(A,..?r)", 1), ("(A,B<A>,..?r)", 3), ("(B<A>,B<A>,..?r)", None), ("()", 1), ("(B<B<A>>,..?r)", None)]:
            self.well(library(*[row.format(laid) for row in rows]), expected)

    def test_rings_that_lack_members(self):
        rows = ["gen start<type>", "inner gen one<type>", "inner gen two<type>", "for start<P<?s,?t>>", "  fun go(x) = one<?t>.go(x)", "for one<?t>", "  fun go(x) = two<?t>.{}", "for two<?t>",
                "  fun go(x) = one<?t>.{}"]
        for first, second, expected in [("go(x)", "go(x)", 1), ("go(x)", "be(x)", None), ("be(x)", "go(x)", None), ("go(x)", "go(x,x)", None)]:
            text = "\n".join(rows).split("{}")
            self.well(library(text[0] + first + text[1] + second), expected)

    def test_a_ring_that_asks_for_more_than_what_leads_to_it(self):
        rows = ["gen start<type>", "inner gen one<type>", "for start<B<?t>>", "  fun go(x) = one<?t>.go(x)", "for one<?t>", "  fun go(x) = one<?t>.go(x)+one<?t>.be(1)", "  fun {}(x) = x"]
        self.well(library(*[row.format("be") for row in rows]), 1)
        self.well(library(*[row.format("so") for row in rows]), None)
        # Here what is asked first is laid on a pile and taken off again.
        rows = ["gen start<type>", "inner gen run<pile>", "for start<B<?t>>", "  fun go(x) = run<(A)>.go(x)", "for run<(A,..?r)>", "  fun go(x) = run<(B<A>,A,..?r)>.go(x)+run<(B<A>,A,..?r)>.{}(1)", "  fun be(x) = x",
                "for run<(B<A>,..?r)>", "  fun go(x) = run<(..?r)>.go(x)", "  fun be(x) = run<(..?r)>.be(1)"]
        self.well(library(*[row.format("be") for row in rows]), 1)
        self.well(library(*[row.format("so") for row in rows]), None)

    def test_rings_on_which_constants_have_no_values(self):
        rows = ["gen start<type>", "inner gen one<type>", "for start<B<?t>>", "  fun go(x) = one<?t>.v", "for one<?t>", "  const v = {}", "  const w = 1", "  fun be() = {}"]
        for first, second, expected in [("one<?t>.w", "one<?t>.v", 1), ("one<?t>.v", "1", None), ("1", "one<?t>.be()", 1), ("1", "1", 1)]:
            text = "\n".join(rows).split("{}")
            self.well(library(text[0] + first + text[1] + second), expected)


class TestErrors(Well):
    def test_two_inner_uses(self):
        for members, wrong in [(["  const v = f<A>.v+f<B<A>>.v"], True), (["  const v = f<A>.v+f<A>.w"], False), (["  const v = f<A>.v", "  fun go(x) = f<A>.go(x)*f<A>.go(1)"], False),
                               (["  const v = f<A>.v", "  fun go(x) = f<B<A>>.go(x)"], True), (["  const v = f<A>.v+g<A>.v"], True), (["  fun go(x) = if f<A>.v then x else f<?t>.v"], True)]:
            given = library("gen f<type>", "gen g<type>", "for f<A>", "  const v = 1", "for f<?t>", *members)
            if wrong:
                self.assertEqual(("AsksTwo", ("base", 1)), told(raised(some_well, given, 0)))
            else:
                self.well(given, 0)

    def test_the_least_mark(self):
        two = "\n  const v = f<A>.v+f<B<A>>.v"
        rows = ["gen f<type>", "inner gen g<type>", "for f<?t>"]
        # No use comes to g, and no use is of the definition for P<A,A>, as both others take it.
        given = library(*rows, more="for g<?t>" + two, views=[("base",), ("more",)])
        self.well(given, 0)
        self.assertEqual(("AsksTwo", ("more", 0)), told(raised(some_well, given, 1)))
        many = ["for g<B<A>>", "for g<B<B<A>>>"]
        given = library(*rows, *many, "for g<A>" + two, "for g<B<?t>>" + two, also="for g<P<A,?t>>" + two, views=[("also",)])
        self.assertEqual(("AsksTwo", ("also", 0)), told(raised(some_well, given, 0)))
        # Marks are ordered by the numbers in them.
        more = [f"for h<{number}>" for number in range(7)]
        given = library(*rows, *many, "gen h<num>", *more, "for g<A>" + two, "for g<B<?t>>" + two)
        self.assertEqual(("AsksTwo", ("base", 10)), told(raised(some_well, given, 0)))
        given = library(*rows, "for g<A>" + two, *many, "gen h<num>", *more, "for g<B<?t>>" + two)
        self.assertEqual(("AsksTwo", ("base", 1)), told(raised(some_well, given, 0)))

    def test_thirty_asks_and_one_more(self):
        down = ["gen start<>", "inner gen count<num,num>", "inner gen end<>", "for start<>", "  const v = count<{},4>.v", "for count<#a+1,#b>", "  const v = count<#a,#b>.v",
                "for count<0,#b+1>", "  const v = count<6,#b>.v", "for count<0,0>", "  const v = end<>.v", "for end<>", "  const v = {}"]
        for ended in ["1", "w", "end<>.w"]:
            for first in (0, 1, 2):
                text = "\n".join(down).split("{}")
                given = library(text[0] + str(first) + text[1] + ended, *([] if ended == "1" else ["  const w = 3"]))
                if first == 0:
                    self.well(given, 30)
                else:
                    self.assertEqual(("TooLong", 30 + first), told(raised(some_well, given, 0)))
        # What goes badly, or has no value, does not go well, however far away this is.
        for ended in ["end<>.w", "end<>.v"]:
            text = "\n".join(down).split("{}")
            self.well(library(text[0] + "6" + text[1] + ended), None)
        two = "\n".join(down).format(6, 1) + "\ninner gen no<>\nfor no<>\n  const v = no<>.v+end<>.v"
        self.assertEqual(("AsksTwo", ("base", 5)), told(raised(some_well, library(two), 0)))

    def test_views_and_libraries(self):
        given = library("gen f<type>", "for f<B<?t>>", "  fun go(x) = f<?t>.go(x)+f<A>.go(x)")
        wrong = library("gen f<type>", "for f<B<?t>>", "  fun go(x) = f<B<B<?t>>>.go(x)+f<A>.go(x)")
        for value in [*ODD_VALUES, 1, 7, -1]:
            for one in (given, wrong):
                error = raised(some_well, one, value)
                self.assertIs(InvalidView, type(error))
                self.assertIs(value, error.given)
        self.assertEqual(("NotApart", "f", "part"), told(raised(some_well, wrong, 0)))
        with NarrowStack():
            self.assertEqual(("AsksTwo", ("base", 0)), told(raised(some_well, given, 0)))


class TestByReading(Well):
    def test_by_reading(self):
        chance, told_uses = random.Random(173), []
        for maker in [OneMaker] * 25 + [CallMaker] * 25 + [OneMachineMaker] * 25:
            given = random_library(chance, maker=maker)
            for k in range(len(given.views)):
                world = World(given, k)
                if any(asks_two(definition) for definition in given.definitions_of(k)):
                    self.assertEqual("AsksTwo", told(raised(some_well, given, k))[0])
                    continue
                try:
                    found = some_well(given, k)
                except TooLong:
                    continue
                least = None
                if found is not None:
                    made = Reading(world, *found)
                    self.assertTrue(made.goes_well(), (given.headers, found))
                    least = least_asks(given, k, world, made)
                    told_uses.append(least)
                for _ in range(12 if world.openly else 0):
                    generic = chance.choice(world.openly)
                    made = Reading(world, generic, random_terms(world, generic, chance))
                    if made.goes_well():
                        self.assertIsNotNone(found, (given.headers, generic))
                        self.assertLessEqual(least, least_asks(given, k, world, made))
        self.assertGreater(len([asks for asks in told_uses if asks > 0]), 5)


if __name__ == "__main__":
    unittest.main()
