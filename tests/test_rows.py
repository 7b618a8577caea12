"""Points [161] to [163]: uses that go badly, dead definitions, and further definitions that are needed."""

import itertools
import random
import unittest

from mostspecial.errors import Dead, TooLong
from mostspecial.library import Library
from mostspecial.matches import alike, matching, more_special, renamed
from mostspecial.meets import meet_all
from mostspecial.rows import bad, chooser, dead, least_names, needed
from mostspecial.sights import sights, term_of
from mostspecial.steps import asks, outcomes, sort_of
from mostspecial.table import road, sorts
from mostspecial.terms import Names
from mostspecial.termtexts import read_terms, write_terms
from tests.tools import ODD_VALUES, deep, raised, told, type_of
from tests.trials import MachineMaker, World, names_of, random_library, random_terms, uses_with_names

NAMES = "name A 0\nname B 1\nname P 2"
TERM_NAMES = Names([("A", 0), ("B", 1), ("P", 2)])
A = type_of("A")


def library(*rows, views=(("base",),), **others):
    headers = {"base": "\n".join([NAMES, *rows])}
    headers.update({word: "see base\n" + others[word] for word in others})
    return Library(headers, views)


class Rows(unittest.TestCase):
    def bad(self, given, expected, k=0):
        """Check what `bad` tells, and that its open use goes badly in this way after so many asks."""
        found = bad(library=given, k=k)
        self.assertEqual(expected, None if found is None else found[:2])
        self.assertEqual(found, bad(given, k))
        if found is not None:
            asks, what, generic, terms = found
            world = World(given, k)
            self.assertIn(generic, world.openly)
            sort_of(given, k, generic, terms)
            rows = world.behind(generic, terms, asks, width=10 ** 6)
            self.assertIn(what, [world.wrong(row) for row in rows if row[0] == asks])
            self.assertEqual([None], list({world.wrong(row) for row in rows if row[0] < asks} | {None}))
        return found

    def chooser(self, given, mark, expected, k=0):
        """Check what `chooser` tells, and that behind its open use there is a use with this choice."""
        asks, generic, terms = chooser(library=given, k=k, mark=mark)
        self.assertEqual(expected, asks)
        self.assertEqual((asks, generic, terms), chooser(given, k, mark))
        world = World(given, k)
        self.assertIn(generic, world.openly)
        sort_of(given, k, generic, terms)
        rows = world.behind(generic, terms, asks, width=10 ** 6)
        choices = [world.choice(row[1], row[2]) for row in rows if row[0] == asks]
        self.assertIn(mark, [choice[0] for choice in choices if not isinstance(choice, str)])
        self.assertNotIn(mark, dead(given, k))


class TestBad(Rows):
    def test_at_an_open_use(self):
        self.bad(library("gen f<type>"), (0, "none"))
        self.bad(library("gen f<type>", "for f<B<?t>>"), (0, "none"))
        self.bad(library("gen f<type,type>", "for f<?t,?s>", "for f<A,?t>", "for f<?t,A>"), (0, "two"))
        self.bad(library("gen f<type>", "for f<?t>"), None)
        self.bad(library("inner gen f<type>"), None)
        self.bad(library(), None)
        self.bad(library("gen f<num>", "for f<2*#n>", "for f<4*#n+1>"), (0, "none"))
        self.bad(library("gen f<types>", "for f<()>", "for f<(?x)>", "for f<(?x,?y,?z,..?r)>"), (0, "none"))
        self.bad(library("gen f<pile>", "for f<(..?r)>", "for f<(A,..?r)>"), None)

    def test_behind_an_open_use(self):
        rows = ["gen f<type>", "inner gen g<type,type>", "for f<?t>", "  const v = g<?t,A>.v", "for f<P<?s,?t>>", "  const v = g<?s,?t>.v", "for g<?s,?t>", "  const v = 1"]
        self.bad(library(*rows), None)
        self.bad(library(*rows, "for g<A,A>"), (1, "lacks"))
        self.bad(library(*rows, "for g<B<?t>,A>", "  fun v() = 1"), (1, "lacks"))
        self.bad(library(*rows, "for g<A,?t>", "  const v = 1", "for g<?t,A>", "  const v = 2"), (1, "two"))
        self.bad(library(*rows[:-2], "for g<B<?t>,?s>", "  const v = 1"), (1, "none"))
        self.bad(library(*rows, "for g<B<?t>,?s>", "  const v = g<?t,?s>.w"), (2, "lacks"))
        self.bad(library(*rows, "for g<B<?t>,?s>", "  const v = g<?t,?s>.v", "for g<A,B<?t>>", "  const v = f<?t>.w"), (2, "lacks"))

    def test_functions_with_other_numbers_of_parameters(self):
        rows = ["gen f<>", "inner gen g<>", "for g<>", "  fun go(x) = x", "  const v = 1", "for f<>"]
        for ask, expected in [("go(1)", None), ("go()", (1, "lacks")), ("go(1,2)", (1, "lacks")), ("v", None), ("go", (1, "lacks")), ("w", (1, "lacks")), ("v()", (1, "lacks"))]:
            self.bad(library(*rows, f"  fun me() = g<>.{ask}"), expected)

    def test_the_least_number_of_asks_counts(self):
        rows = ["gen f<type>", "inner gen g<type>", "inner gen h<type>", "for f<?t>", "  const v = g<?t>.v", "for g<?t>", "  const v = h<?t>.v", "for h<B<?t>>", "  const v = h<?t>.v"]
        self.bad(library(*rows), (2, "none"))
        self.bad(library(*rows, "for g<A>", "  const w = 1"), (1, "lacks"))
        self.bad(library(*rows, "for h<?t>", "  const v = 1"), None)
        self.bad(library(*rows, "for h<?t>", "  const v = 1", "for h<P<?s,?t>>", "  const v = h<?s>.w"), (3, "lacks"))
        # An open use is asked by no one for what it lacks.
        self.bad(library(*rows, "for h<?t>", "  const v = 1", "for f<A>"), None)

    def test_lines_of_asks(self):
        def line(most, *rows):
            return library("gen start<>", "inner gen c<num,num>", "inner gen e<>", "for start<>", f"  const v = c<{most[0]},{most[1]}>.v", "for c<#a+1,#b>", "  const v = c<#a,#b>.v",
                           "for c<0,#b+1>", "  const v = c<6,#b>.v", *rows)
        # c<6,3> lies 1 ask behind start<>, c<0,0> 28 asks, and e<> 29 asks.
        self.bad(line((6, 3)), (28, "none"))
        self.bad(line((6, 3), "for c<0,0>", "  const v = e<>.v"), (29, "none"))
        self.bad(line((6, 3), "for c<0,0>", "  const v = e<>.v", "for e<>"), (29, "lacks"))
        self.bad(line((0, 4)), (29, "none"))
        self.bad(line((1, 4)), (30, "none"))
        self.bad(line((0, 4), "for c<0,0>", "  const v = e<>.v", "for e<>"), (30, "lacks"))
        for given, asks in [(line((2, 4)), 31), (line((1, 4), "for c<0,0>", "  const v = e<>.v", "for e<>"), 31), (line((6, 6)), 49)]:
            self.assertEqual(("TooLong", asks), told(raised(bad, given, 0)))
            self.assertEqual(0, least_names(given, 0))

    def test_views(self):
        headers = {"base": "name A 0\ngen f<type>\nfor f<A>", "more": "see base\nfor f<?t>", "other": "see more\ngen g<>"}
        given = Library(headers, [("base",), ("more",), ("more", "other"), ()])
        for k, expected in enumerate([(0, "none"), None, (0, "none"), None]):
            self.bad(given, expected, k)
            self.assertEqual({0: 1, 1: None, 2: 0, 3: None}[k], least_names(library=given, k=k))


class TestLeastNames(Rows):
    def test_names_that_stand_several_times(self):
        rows = ["gen f<type,types>", "inner gen g<type>", "for f<?t,()>", "  const v = g<?t>.v", "for f<?t,(?x,..?r)>", "  const v = 1", "for g<?t>", "  const v = 1"]
        self.assertIsNone(least_names(library(*rows), 0))
        self.assertEqual(3, least_names(library(*rows, "for g<P<A,A>>"), 0))
        self.assertEqual(2, least_names(library(*rows, "for g<B<?t>>"), 0))
        self.assertEqual(4, least_names(library(*rows, "for f<A,(B<?t>,A,..?r)>", "  const v = g<?t>.w"), 0))
        self.assertEqual(3, least_names(library("gen f<type>", "for f<?t>", "for f<P<?t,?t>>", "for f<P<?t,A>>"), 0))
        self.assertEqual(7, least_names(library("gen f<type>", "for f<?t>", "for f<P<?t,?t>>", "for f<P<?s,P<A,?t>>>"), 0))

    def test_piles(self):
        rows = ["gen f<pile>", "for f<(A,..?r)>", "  const v = f<(..?r)>.v", "for f<(B<?x>,..?r)>", "  const v = f<(?x,..?r)>.v", "for f<()>", "  const v = 1"]
        self.assertEqual(1, least_names(library(*rows), 0))
        self.assertIsNone(least_names(library(*rows, "for f<(?x,..?r)>", "  const v = 1"), 0))
        # Names count in all items, also where they come to be seen late.
        rows = ["gen start<pile>", "inner gen f<num,pile>", "for start<(..?r)>", "  const v = f<0,(..?r)>.v", "for f<0,(?x,..?r)>", "  const v = f<1,(..?r)>.v",
                "for f<#n+1,(?x,..?r)>", "  const v = f<2,(..?r)>.v", "for f<#n,()>", "  const v = 1"]
        self.assertEqual(4, least_names(library(*rows, "for f<2,(B<?x>,..?r)>"), 0))
        self.assertEqual(2, least_names(library(*rows, "for f<1,(A,..?r)>"), 0))
        self.assertEqual(3, least_names(library(*rows, "for f<2,(A,..?r)>", "  const w = 1"), 0))
        self.assertEqual(3, least_names(library(*rows, "for f<1,(B<?x>,..?r)>", "  const v = f<2,(?x,..?r)>.w"), 0))

    def test_piles_that_must_have_an_item(self):
        # What has an item asks for what has no choice; the item is looked at by the other definition alone.
        rows = ["gen f<pile,type>", "inner gen e<pile>", "for f<(),?c>", "  const v = 1", "for f<(..?r),?c>", "  const v = e<{}>.v"]
        for laid, expected in [("(A)", 1), ("()", 1), ("(..?r)", 1), ("(A,..?r)", 1)]:
            self.assertEqual(expected, least_names(library(*[row.format(laid) for row in rows]), 0))
        rows += ["for f<(A,..?r),?c>", "  const v = 1", "for f<(B<?x>,..?r),?c>", "  const v = f<(..?r),?c>.v"]
        self.assertEqual(1, least_names(library(*[row.format("()") for row in rows]), 0))
        rows += ["for f<(?x,..?r),?c>", "  const v = 1", "inner gen g<pile>", "for f<(B<A>,..?r),?c>", "  const v = g<(..?r)>.v", "for g<()>", "  const v = 1", "for g<(..?r)>", "  const v = e<()>.v"]
        self.assertEqual(3, least_names(library(*[row.format("()") for row in rows]), 0))

    def test_inner_uses_of_one_sort_that_need_more_and_fewer_names(self):
        # All uses with P ask for g<B<A>>, and some for g<B<?x>> of their own, too.
        for asked in ["g<B<A>>.v+g<?x>.v", "g<?x>.v+g<B<A>>.v", "g<B<A>>.v+g<?y>.v", "g<?y>.v+g<B<A>>.v+g<?x>.v"]:
            given = library("gen f<type>", "inner gen g<type>", "for f<?t>", "  const v = 1", "for f<P<?x,?y>>", f"  const v = {asked}", "for g<?t>", "  const v = 1", "for g<B<?t>>", "  const w = 1")
            self.bad(given, (1, "lacks"))
            self.assertEqual(3, least_names(given, 0))
        given = library("gen f<type>", "inner gen g<type>", "for f<?t>", "  const v = 1", "for f<P<?x,?y>>", "  const v = g<?x>.v+g<?y>.v", "for g<?t>", "  const v = 1", "for g<B<?t>>", "  const w = 1")
        self.assertEqual(4, least_names(given, 0))

    def test_lists_that_are_not_handed_on(self):
        # Only behind lists of two items and more g is asked.
        rows = ["gen f<types,type>", "inner gen g<type>", "for f<(),?t>", "  const v = 1", "for f<(?x),?t>", "  const v = 1", "for f<(..?r),?t>", "  const v = g<?t>.v", "for g<?t>", "  const v = 1", "for g<B<?t>>"]
        self.assertEqual(4, least_names(library(*rows), 0))
        self.assertEqual(4, least_names(library(*rows, "for f<(?x,?y,..?r),A>", "  const v = 1"), 0))
        self.assertEqual(5, least_names(library(*rows, "for f<(?x,?y),?t>", "  const v = 1"), 0))
        # Here f<(A,A),?t> has two choices.
        self.assertEqual(3, least_names(library(*rows, "for f<(?x,?y),?t>", "  const v = 1", "for f<(A,A,..?r),?t>", "  const v = 1"), 0))

    def test_fewest_asks_and_fewest_names_belong_to_other_uses(self):
        rows = ["gen f<type>", "for f<P<P<A,A>,P<A,A>>>", "  const v = f<A>.w", "inner gen g<type>", "for f<?t>", "  const v = g<?t>.v", "for g<?t>", "  const v = f<?t>.u"]
        self.bad(library(*rows), (1, "lacks"))
        self.assertEqual(1, least_names(library(*rows), 0))
        rows[-1] = "  const v = 1"
        rows += ["for g<B<?t>>", "  const v = g<?t>.v", "for g<B<A>>", "  const v = g<A>.w"]
        self.bad(library(*rows), (1, "lacks"))
        self.assertEqual(2, least_names(library(*rows), 0))

    def test_carried_places_do_not_count(self):
        rows = ["gen f<type,type,types>", "for f<B<?t>,?c,(..?r)>", "  const v = f<?t,P<?c,A>,(A,..?r)>.w", "for f<?t,?c,(..?r)>"]
        self.assertEqual(2, least_names(library(*rows), 0))


class TestDead(Rows):
    def test_views(self):
        headers = {"base": NAMES + "\ngen f<type>\ninner gen g<type>\nfor g<A>\nfor g<?t>\nfor f<?t>\n  const v = g<B<A>>.v",
                   "more": "see base\nfor f<B<?t>>\n  const v = g<?t>.v"}
        given = Library(headers, [("base",), ("more",)])
        self.assertEqual([[("base", 0)], []], [dead(library=given, k=k) for k in range(2)])
        dead(given, 0).clear()
        self.assertEqual([("base", 0)], dead(given, 0))
        self.chooser(given, ("base", 1), 1)
        self.chooser(given, ("base", 2), 0)
        self.chooser(given, ("base", 0), 1, k=1)
        self.chooser(given, ("more", 0), 0, k=1)
        self.assertEqual(("Dead", ("base", 0)), told(raised(chooser, given, 0, ("base", 0))))
        self.assertEqual(("Dead", ("more", 0)), told(raised(chooser, given, 0, ("more", 0))))

    def test_marks_that_are_none(self):
        given = library("gen f<>", "for f<>", "gen g<>", "for g<>")
        for mark in [*ODD_VALUES, ["base", 0], ("base", 2), ("base", -1), ("base", False), ("base", True), ("none", 0), ("base",), ("base", 0, 0), (0, "base"), (["base"], 0), ("base", None)]:
            error = raised(chooser, given, 0, mark)
            self.assertIs(Dead, type(error))
            self.assertIs(mark, error.mark)
        self.assertEqual((0, "g", ()), chooser(given, 0, ("base", 1)))

    def test_definitions_that_others_hide(self):
        given = library("gen f<num>", "for f<#n>", "for f<2*#n>", "for f<2*#n+1>", "gen g<type,type>", "for g<?t,?t>", "for g<?s,?t>", "for g<A,A>")
        self.assertEqual([("base", 0)], dead(given, 0))
        for k in range(1, 6):
            self.chooser(given, ("base", k), 0)

    def test_choices_behind_many_asks(self):
        rows = ["gen start<>", "inner gen c<num,num>", "for start<>", "  const v = c<6,4>.v", "for c<#a+1,#b>", "  const v = c<#a,#b>.v", "for c<0,#b+1>", "  const v = c<6,#b>.v"]
        given = library(*rows, "for c<5,0>", "  const v = c<4,0>.v", "for c<4,0>", "  const v = c<3,0>.v", "for c<6,6>")
        self.chooser(given, ("base", 2), 7)
        self.chooser(given, ("base", 3), 30)
        self.assertEqual(("TooLong", 31), told(raised(chooser, given, 0, ("base", 4))))
        self.assertEqual([("base", 5)], dead(given, 0))
        self.assertIs(TooLong, type(raised(chooser, given, 0, ("base", 4))))


class TestNeeded(Rows):
    def needed(self, given, expected, k=0):
        found = needed(library=given, k=k)
        self.assertEqual(expected, [(generic, write_terms(pattern)) for generic, pattern in found])
        needed(given, k).clear()
        self.assertEqual(found, needed(given, k))

    def test_two_and_more_patterns(self):
        self.needed(library("gen f<type,type>", "for f<A,?t>", "for f<?t,A>"), [("f", "A,A")])
        self.needed(library("gen f<type,type>", "for f<A,?t>", "for f<?t,A>", "for f<?t,?t>"), [("f", "A,A")])
        self.needed(library("gen f<type,type>", "for f<B<?s>,?t>", "for f<?t,B<?s>>", "for f<?t,?t>"), [("f", "B<?v0>,B<?v0>"), ("f", "B<?v0>,B<?v1>")])
        self.needed(library("gen f<num>", "for f<2*#n>", "for f<3*#n>", "for f<4*#n>"), [("f", "12*#v0"), ("f", "6*#v0")])
        self.needed(library("gen f<types>", "for f<(A,..?r)>", "for f<(?x)>"), [("f", "(A)")])

    def test_only_what_is_met(self):
        rows = ["inner gen g<type,type>", "for g<A,?t>", "for g<?t,A>", "gen f<type>", "for f<?t>"]
        self.needed(library(*rows, "  const v = g<?t,B<A>>.v"), [])
        self.needed(library(*rows, "  const v = g<?t,A>.v"), [("g", "A,A")])
        self.needed(library(*rows), [])
        # Uses that no definition takes need none.
        self.needed(library("gen f<type>", "for f<A>"), [])

    def test_order_and_views(self):
        headers = {"base": NAMES + "\ngen f<type,num>\ngen e<type,type>\nfor f<A,#n>\nfor e<A,?t>", "more": "see base\nfor f<?t,3>\nfor f<B<?t>,#n>\nfor e<?t,A>\nfor e<?t,B<?s>>"}
        given = Library(headers, [("base",), ("more",)])
        self.needed(given, [])
        self.needed(given, [("e", "A,A"), ("e", "A,B<?v0>"), ("f", "A,3"), ("f", "B<?v0>,3")], k=1)

    def test_piles_and_carried_places(self):
        rows = ["gen f<pile,type,num>", "for f<(A,..?r),?t,#n>", "for f<(..?r),?t,0>", "for f<(..?r),?t,#n>"]
        self.needed(library(*rows), [("f", "(A,..?v0),?v1,0")])


class TestSmallUses(Rows):
    def test_told_uses_have_few_names(self):
        # f<B<?t>> asks g<?t> and g<B<?t>> alike, and the second one leads to g<B<A>> from a smaller use.
        rows = ["gen f<type>", "inner gen g<type>", "for f<B<?t>>", "  const v = g<?t>.v+g<B<?t>>.v", "for g<B<?t>>", "  const v = 1", "for f<?t>", "for g<B<A>>", "  const w = 1",
                "for g<?t>", "  const v = 1"]
        self.assertEqual((1, "lacks", "f", (type_of("B", A),)), bad(library(*rows), 0))
        self.assertEqual((1, "f", (type_of("B", A),)), chooser(library(*rows), 0, ("base", 3)))

    def test_told_uses_are_within_the_limits(self):
        # Along many asks, each number is four times as great as the one behind it, and each type one deeper.
        rows = ["name T 3", "gen start<num,type>", "for start<#n,?t>", "  const v = c<6,#n,?t>.v", "inner gen last<num,type>", "for last<3,T<?t,?x,?y>>"]
        for word, following in zip("cdeh", ["d<6", "e<6", "h<6", "last<"]):
            asked = f"{following},#n,?t>" if following != "last<" else "last<#n,?t>"
            rows += [f"inner gen {word}<num,num,type>", f"for {word}<#a+1,4*#n+3,T<?t,?p,?q>>", f"  const v = {word}<#a,#n,?t>.v", f"for {word}<0,#n,?t>", f"  const v = {asked}.v"]
        given = library(*rows)
        self.chooser(given, ("base", 1), 29)
        asks, generic, terms = chooser(given, 0, ("base", 1))
        sort_of(given, 0, generic, terms)
        self.assertEqual(4 ** 24 * 4 - 1, terms[0])
        for number in [7, 1000]:
            asks, generic, terms = road(given, 0, "last", (number, deep(20)))
            self.assertEqual((29, "start"), (asks, generic))
            sort_of(given, 0, generic, terms)
            self.assertEqual(4 ** 24 * (number + 1) - 1, terms[0])


class TestEqualAnswers(unittest.TestCase):
    def answers(self, given):
        """The answers of all functions that may choose among right ones."""
        found = []
        for k in range(len(given.views)):
            found.extend([bad(given, k), least_names(given, k), dead(given, k), needed(given, k), sorts(given, k)])
            found.extend(chooser(given, k, row.mark) for row in given.definitions_of(k) if row.mark not in dead(given, k))
            for sort in sorts(given, k)[:10]:
                found.extend([outcomes(given, k, sort), asks(given, k, sort), [term_of(given, k, "type", row) for row in sights(given, k, "type")]])
        return found

    def test_behind_calls_with_other_libraries(self):
        chance = random.Random(21)
        given = [random_library(chance) for _ in range(8)]
        first = [self.answers(one) for one in given]
        self.assertEqual(first, [self.answers(one) for one in given])
        again = [Library(dict(list(one.headers.items())[::-1]), list(one.views)) for one in given[::-1]]
        self.assertEqual(first[::-1], [self.answers(one) for one in again])


class TestByOwnTrial(Rows):
    def test_random_libraries(self):
        chance = random.Random(8)
        for often, inner in [(0.1, 0.5), (0.3, 0.7), (0.5, 0.8), (0.15, 0.9)]:
            for _ in range(12):
                given = random_library(chance, often=often, inner=inner)
                for k in range(2):
                    self.check_view(given, k, chance)

    def test_random_machines(self):
        chance = random.Random(9)
        for often in [0, 0.2]:
            for _ in range(40):
                self.check_view(random_library(chance, maker=MachineMaker, often=often), 0, chance)

    def check_view(self, given, k, chance):
        world = World(given, k)
        found = self.bad(given, bad(given, k) and bad(given, k)[:2], k)
        least, gone = least_names(given, k), dead(given, k)
        self.assertEqual(found is None, least is None)
        lacking = needed(given, k)
        for generic in world.openly:
            for _ in range(10):
                terms = random_terms(world, generic, chance)
                rows = world.behind(generic, terms, 5, width=60)
                for row in rows:
                    what = world.wrong(row)
                    self.assertTrue(what is None or found is not None and found[0] <= row[0])
                    choice = world.choice(row[1], row[2])
                    if choice == "two":
                        takers = [one[2] for one in world.definitions if one[1] == row[1] and matching(one[2], row[2]) is not None]
                        self.assertIn((row[1], meet_all(takers)), lacking)
                    elif choice != "none":
                        self.assertNotIn(choice[0], gone)
                        if row[0] == 0:
                            self.assertEqual(0, chooser(given, k, choice[0])[0])
                if any(world.wrong(row) for row in rows):
                    self.assertLessEqual(least, names_of(given, generic, terms))
        for mark in [row[0] for row in world.definitions if row[0] not in gone]:
            self.chooser(given, mark, chooser(given, k, mark)[0], k)
        self.check_least(given, world, least)
        self.check_needed(given, world, lacking)

    def check_least(self, given, world, least):
        """Check by all open uses with few names that just so many are needed."""
        if least is None or least > 2:
            return
        for many in range(least + 1):
            uses = [(word, terms) for word in world.openly for terms in itertools.islice(uses_with_names(world, given, word, many), 3000)]
            found = any(any(world.wrong(row) for row in world.behind(word, terms, 12, width=100)) for word, terms in uses)
            self.assertEqual(many == least, found)

    def check_needed(self, given, world, lacking):
        """Check that the told patterns, and no fewer, give each use that is met one choice."""
        for generic in world.kinds:
            patterns = [row[2] for row in world.definitions if row[1] == generic]
            more = [pattern for word, pattern in lacking if word == generic]
            self.assertEqual([write_terms(renamed(pattern)) for pattern in more], sorted(write_terms(pattern) for pattern in more))
            self.assertFalse(any(alike(one, other) for one in more for other in patterns))
        for sort in sorts(given, world.k)[:40]:
            two = outcomes(given, world.k, sort)[2]
            self.assertTrue(not two or any(word == sort[0] for word, pattern in lacking))
        chance = random.Random(1)
        for generic in {word for word, pattern in lacking}:
            for _ in range(30):
                terms = random_terms(world, generic, chance)
                if sort_of(given, world.k, generic, terms) not in sorts(given, world.k):
                    continue
                patterns = [row[2] for row in world.definitions if row[1] == generic]
                more = [*patterns, *[pattern for word, pattern in lacking if word == generic]]
                takers = [pattern for pattern in more if matching(pattern, terms) is not None]
                least = [pattern for pattern in takers if all(more_special(pattern, other) for other in takers)]
                self.assertEqual(1 if takers else 0, len(least))
                choice = world.choice(generic, terms)
                if not isinstance(choice, str):
                    self.assertEqual([choice[2]], least)


if __name__ == "__main__":
    unittest.main()
