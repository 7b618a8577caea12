"""Points [141] to [143]: sorts of uses, what they come to, and what they ask."""

import random
import unittest

from mostspecial.errors import InvalidSort, InvalidUse
from mostspecial.library import Library
from mostspecial.matches import matching, put_in_all
from mostspecial.sights import looks, sight, sights
from mostspecial.steps import asks, is_sort, outcomes, sort_of
from mostspecial.terms import Names
from mostspecial.termtexts import read_term, read_terms
from tests.tools import NarrowStack, ODD_VALUES, deep, raised, type_of, wide
from tests.trials import World, random_library, random_terms

NAMES = "name A 0\nname B 1\nname P 2"
TERM_NAMES = Names([("A", 0), ("B", 1), ("P", 2)])
A = type_of("A")
EMPTY = ("list", (), None)


def library(*rows, views=(("base",),), **others):
    headers = {"base": "\n".join([NAMES, *rows])}
    headers.update({word: "see base\n" + others[word] for word in others})
    return Library(headers, views)


def use(text, *kinds):
    return read_terms(text, kinds, TERM_NAMES)


def types(given, *texts):
    """The sights of some types."""
    return tuple(sight(given, "type", read_term(text, "type", TERM_NAMES)) for text in texts)


class TestSorts(unittest.TestCase):
    ROWS = ("gen f<type,num,pile,types>", "gen k<type>", "inner gen h<types>", "for f<B<?t>,2*#n+1,(A,..?r),(..?s)>", "for h<(?x)>")

    def test_sort_of(self):
        given = library(*self.ROWS)
        b, other, a = types(given, "B<A>", "Zed", "A")
        self.assertEqual(("f", (b, ("small", 1)), a), sort_of(library=given, k=0, generic="f", terms=use("B<A>,1,(A,B<A>),()", "type", "num", "types", "types")))
        self.assertEqual(("f", (other, ("far", 0)), "()"), sort_of(given, 0, "f", use("P<A,A>,4,(),(A)", "type", "num", "types", "types")))
        self.assertEqual(("f", (other, ("far", 1)), other), sort_of(given, 0, "f", use("Zed,5,(Zed,A),()", "type", "num", "types", "types")))
        self.assertEqual(("k", (), None), sort_of(given, 0, "k", (A,)))
        self.assertEqual(("h", (sight(given, "types", EMPTY),), None), sort_of(given, 0, "h", (EMPTY,)))

    def test_invalid_uses(self):
        given = Library({"base": "name A 0\ngen f<type>\nfor f<A>", "more": "see base\nname C 1\ninner gen h<type>\nfor h<A>"}, [("base",), ("more",)])
        c = type_of("C", A)
        self.assertEqual("f", sort_of(given, 1, "f", (c,))[0])
        self.assertEqual("h", sort_of(given, 1, "h", (c,))[0])
        wrong = [("f", (c,)), ("f", (type_of("C"),)), ("f", (type_of("B", c),)), ("h", (A,)), ("none", ()), ("f", [A]), ("f", ()), ("f", (A, A)), ("f", (("var", "t"),)),
                 ("f", (deep(200),)), ("f", (3,)), ("f", (True,)), ("f", (type_of("A", A),)), *[("f", value) for value in ODD_VALUES], *[(value, (A,)) for value in ODD_VALUES]]
        for generic, terms in wrong:
            error = raised(sort_of, given, 0, generic, terms)
            self.assertIs(InvalidUse, type(error))
            self.assertIs(generic, error.given[0])
            self.assertIs(terms, error.given[1])
        self.assertIs(InvalidUse, type(raised(sort_of, given, 1, "f", (type_of("C"),))))

    def test_is_sort(self):
        given = library(*self.ROWS)
        b, other, a = types(given, "B<A>", "Zed", "A")
        one, empty = ("small", 1), sight(given, "types", EMPTY)
        for value in [("f", (b, one), a), ("f", (b, one), "()"), ("f", (other, ("far", 1)), other), ("k", (), None), ("h", (empty,), None)]:
            self.assertIs(True, is_sort(library=given, k=0, value=value))
        wrong = [*ODD_VALUES, ["f", (b, one), a], ("f", [b, one], a), ("f", (list(b), one), a), ("f", (b, list(one)), a), ("f", (b, one), list(a)), ("f", (b, one), None),
                 ("f", (b, one), ()), ("f", (b, one)), ("f", (b,), a), ("f", (b, one, empty), a), ("f", (one, b), a), ("f", (b, ("small", True)), a),
                 ("f", (b, ("small", 2)), a), ("f", (b, ("far", 2)), a), ("f", (b, ("far", False)), a), ("g", (), None), ("k", (), "()"), ("k", (b,), None), ("h", (empty,), "()"),
                 ("h", (empty,), b), ("h", (b,), None), ("h", (empty,)), ("f", (b, one), "x"), ("f", None, a), ("f", (None, one), a), (None, (b, one), a), (["f"], (b, one), a),
                 ("f", (b, one), a, None), ("f", (b, ("small",)), a), ("f", (b, ("none", 1)), a), ("f", (b, [("small", 1)]), a), ("f", ({}, one), a), ("f", (b, one), {})]
        for value in wrong:
            self.assertIs(False, is_sort(given, 0, value), value)
            for function in [outcomes, asks]:
                error = raised(function, given, 0, value)
                self.assertIs(InvalidSort, type(error))
                self.assertIs(value, error.given)
        # Indices are integers, and True is none.
        given = library("gen f<type>", "for f<A>", "for f<?t>")
        self.assertEqual((0, 1), types(given, "A")[0])
        self.assertEqual([True, False, False], [is_sort(given, 0, ("f", (row,), None)) for row in [(0, 1), (0, True), (False, 1)]])

    def test_views(self):
        given = Library({"base": "name A 0\ngen f<type>\nfor f<A>", "more": "see base\nname C 0\nfor f<C>"}, [("base",), ("more",)])
        self.assertEqual(["A", "C"], looks(given))
        self.assertEqual([False, True], [is_sort(given, k, ("f", ((1,),), None)) for k in range(2)])
        self.assertIs(InvalidSort, type(raised(asks, given, 0, ("f", ((1,),), None))))
        self.assertEqual(((("more", 0),), False, False), outcomes(given, 1, ("f", ((1,),), None)))


class TestOutcomes(unittest.TestCase):
    def check(self, expected, rows, *texts):
        given = library(*rows)
        self.assertEqual(expected, outcomes(library=given, k=0, sort=("f", types(given, *texts), None)))

    def test_one_mark_none_and_two(self):
        rows = ["gen f<type,type>", "for f<A,?t>", "for f<?t,A>", "for f<B<?x>,?t>", "for f<B<A>,B<A>>"]
        self.check(((("base", 0),), False, False), rows, "A", "B<A>")
        self.check(((), False, True), rows, "A", "A")
        self.check(((), True, False), rows, "Zed", "B<A>")
        self.check(((), True, False), rows, "Zed", "Zed")
        self.check(((("base", 3),), False, False), rows, "B<A>", "B<A>")
        self.check(((("base", 2),), False, False), rows, "B<A>", "Zed")
        self.check(((), False, True), rows, "B<A>", "A")

    def test_numbers_lists_and_piles(self):
        given = library("gen f<num,types,pile>", "for f<2*#n,(..?r),(..?p)>", "for f<#n+1,(A,..?r),(..?p)>", "for f<#n,(..?r),()>", "for f<2*#n+2,(A,..?r),(A,..?p)>")
        lists = {text: sight(given, "types", read_term(text, "types", TERM_NAMES)) for text in ["()", "(A)", "(B<A>)"]}
        a, other = types(given, "A", "Zed")
        for number, items, first, expected in [
                (("small", 0), "(A)", a, ((("base", 0),), False, False)), (("small", 1), "()", a, ((), True, False)), (("small", 1), "()", "()", ((("base", 2),), False, False)),
                (("far", 0), "(A)", a, ((("base", 3),), False, False)), (("far", 0), "(A)", other, ((), False, True)), (("far", 1), "(A)", other, ((("base", 1),), False, False)),
                (("far", 0), "(B<A>)", "()", ((), False, True)), (("far", 1), "(B<A>)", other, ((), True, False))]:
            self.assertEqual(expected, outcomes(given, 0, ("f", (number, lists[items]), first)))

    def test_more_than_the_sights_count(self):
        rows = ["gen f<type,type>", "for f<?t,?t>", "for f<?s,?t>"]
        self.check(((("base", 0), ("base", 1)), False, False), rows, "A", "A")
        rows = ["gen f<type,type>", "for f<?t,?t>", "for f<A,?t>"]
        self.check(((("base", 0),), True, False), rows, "Zed", "Zed")
        self.check(((), False, True), rows, "A", "A")
        self.check(((("base", 1),), False, False), rows, "A", "Zed")
        rows = ["gen f<type,type>", "for f<?t,?t>", "for f<P<?s,?s>,?t>", "for f<B<A>,B<A>>"]
        # Terms of the same sight may be equal, may have equal parts, both or neither.
        self.check(((("base", 0), ("base", 1)), True, True), rows, "P<A,B<A>>", "P<A,B<A>>")
        self.check(((("base", 1),), True, False), rows, "P<A,B<A>>", "Zed")
        self.check(((("base", 2),), False, False), rows, "B<A>", "B<A>")

    def test_variables_that_stand_twice_deeper(self):
        rows = ["gen f<type,type>", "for f<B<?t>,?t>", "for f<?s,B<?t>>"]
        # B<x> and x: the one of sight B<?> may be B of the other one.
        self.check(((("base", 0),), True, False), rows, "B<A>", "Zed")
        self.check(((("base", 1),), False, True), rows, "B<A>", "B<A>")
        given = library("gen f<types,pile>", "for f<(?x,?x,..?r),(..?p)>", "for f<(?x,..?r),(?x,..?p)>")
        row = sight(given, "types", read_term("(A,A,A)", "types", TERM_NAMES))
        self.assertEqual(((("base", 0), ("base", 1)), True, True), outcomes(given, 0, ("f", (row,), types(given, "A")[0])))
        self.assertEqual(((("base", 0),), True, False), outcomes(given, 0, ("f", (row,), "()")))
        row = sight(given, "types", read_term("(A)", "types", TERM_NAMES))
        self.assertEqual(((("base", 1),), True, False), outcomes(given, 0, ("f", (row,), types(given, "A")[0])))

    def test_definitions_that_take_no_use_of_a_sort_together(self):
        # P<A,A> has another sight than P<A,Zed>, so no use of this sort is taken by the first two together.
        rows = ["gen f<type,type>", "gen g<type>", "for f<P<?a,?b>,?a>", "for f<P<?a,?b>,?b>", "for f<?s,?t>", "for g<P<A,A>>"]
        self.check(((("base", 0), ("base", 1), ("base", 2)), False, False), rows, "P<A,Zed>", "A")
        self.check(((), False, True), rows, "P<A,A>", "A")
        self.check(((("base", 0), ("base", 1), ("base", 2)), False, True), rows, "P<A,Zed>", "Zed")
        self.check(((("base", 0), ("base", 1), ("base", 2)), False, True), rows[:-1], "P<A,Zed>", "Zed")
        self.check(((("base", 2),), False, False), rows, "A", "A")

    def test_definitions_that_no_use_has_together(self):
        rows = ["gen f<type,type>", "for f<?t,?t>", "for f<B<?t>,?t>", "for f<?s,?t>"]
        self.check(((("base", 0), ("base", 1), ("base", 2)), False, False), rows, "B<A>", "B<A>")
        self.check(((("base", 0), ("base", 1)), True, False), rows[:-1], "B<A>", "B<A>")
        self.check(((("base", 1), ("base", 2)), False, False), rows, "B<A>", "Zed")

    def test_sights_that_one_term_alone_has(self):
        rows = ["gen f<type,type>", "for f<?t,?t>", "for f<A,B<A>>", "for f<B<A>,A>"]
        self.check(((("base", 0),), False, False), rows, "A", "A")
        self.check(((("base", 0),), False, False), rows, "B<A>", "B<A>")
        self.check(((("base", 1),), False, False), rows, "A", "B<A>")
        self.check(((), True, False), rows, "A", "Zed")


class TestAsks(unittest.TestCase):
    def asked(self, given, sort):
        found = asks(library=given, k=0, sort=sort)
        self.assertEqual(len(found), len(set(found)))
        self.assertEqual(found, asks(given, 0, sort))
        asks(given, 0, sort).clear()
        return sorted(found)

    def test_constants_functions_and_carried_places(self):
        given = library("gen f<type,num>", "gen g<type,type>", "for f<B<?t>,#n>", "  const v = g<?t,A>.w+g<?t,P<?t,?t>>.w", "  fun go(x) = g<?t,B<?t>>.go(x,1)+f<?t,#n+1>.v",
                        "for g<B<?s>,?c>", "for f<?t,#n>")
        b, other = types(given, "B<A>", "Zed")
        rows = [(("base", 0), "f", (one,), None, "v", -1) for one in (b, other)]
        rows += [(("base", 0), "g", (one,), None, word, many) for one in (b, other) for word, many in [("w", -1), ("go", 2)]]
        self.assertEqual(sorted(rows), self.asked(given, ("f", (b,), None)))
        self.assertEqual([], self.asked(given, ("f", (other,), None)))

    def test_uses_without_a_choice_ask_nothing(self):
        given = library("gen f<type,type>", "for f<A,?t>", "  const v = f<A,A>.v", "for f<?t,A>", "  const v = f<A,B<A>>.v")
        a, other = types(given, "A", "Zed")
        self.assertEqual([], self.asked(given, ("f", (a, a), None)))
        self.assertEqual([(("base", 0), "f", (a, a), None, "v", -1)], self.asked(given, ("f", (a, other), None)))

    def test_begun_laid_and_beside(self):
        given = library("gen f<types,pile>", "inner gen g<pile>", "for f<(?x,..?r),(?y,..?p)>", "  const v = g<(?x,?y,A)>.a+g<()>.b+g<(?x,..?p)>.c+g<(..?p)>.d+g<(B<A>,..?r)>.e",
                        "for f<(),(..?p)>", "  const v = g<(..?p)>.a+g<(A,..?p)>.b+g<()>.c", "for g<(B<?x>,..?r)>", "for g<(..?r)>")
        a, b, other = types(given, "A", "B<A>", "Zed")
        every = sights(given, 0, "type")
        empty, longer = [sight(given, "types", read_term(text, "types", TERM_NAMES)) for text in ["()", "(A)"]]
        self.assertEqual(2, len(sights(given, 0, "types")))
        found = self.asked(given, ("f", (longer,), a))
        mark = ("base", 0)
        rows = [(mark, "g", (), ("begun", (x, a, a)), "a", -1) for x in every] + [(mark, "g", (), ("begun", ()), "b", -1)]
        rows += [(mark, "g", (), ("laid", (x,)), "c", -1) for x in every] + [(mark, "g", (), ("laid", ()), "d", -1)]
        rows += [(mark, "g", (), ("beside", (b,), r), "e", -1) for r in (empty, longer)]
        self.assertEqual(sorted(rows), found)
        # Under a bare pile, the first item of the use goes on.
        mark = ("base", 1)
        self.assertEqual(sorted([(mark, "g", (), ("laid", (other,)), "a", -1), (mark, "g", (), ("laid", (a, other)), "b", -1), (mark, "g", (), ("begun", ()), "c", -1)]),
                         self.asked(given, ("f", (empty,), other)))
        self.assertEqual(sorted([(mark, "g", (), ("laid", ()), "a", -1), (mark, "g", (), ("laid", (a,)), "b", -1), (mark, "g", (), ("begun", ()), "c", -1)]),
                         self.asked(given, ("f", (empty,), "()")))

    def test_numbers(self):
        given = library("gen f<num>", "gen g<num>", "for f<3*#n+1>", "  const v = g<#n>.v", "for f<3*#n+2>", "  const w = f<3*#n+2>.v", "for f<0>", "  const v = g<2>.v",
                        "for g<2*#n>", "for g<2*#n+1>")
        self.assertEqual([(("base", 0), "g", (("small", 0),), None, "v", -1)], self.asked(given, ("f", (("small", 1),), None)))
        # With the bound 3 and the step 6, far numbers with the remainder 1 are 7, 13, 19 and so on, which ask 2, 4, 6 and so on.
        self.assertEqual([("far", 0), ("far", 2), ("far", 4), ("small", 2)], [row[2][0] for row in self.asked(given, ("f", (("far", 1),), None))])
        self.assertEqual([("far", 1), ("far", 3), ("far", 5), ("small", 1)], [row[2][0] for row in self.asked(given, ("f", (("far", 4),), None))])
        self.assertEqual([("far", 5)], [row[2][0] for row in self.asked(given, ("f", (("far", 5),), None))])
        self.assertEqual([], self.asked(given, ("f", (("far", 3),), None)))
        self.assertEqual([(("base", 2), "g", (("small", 2),), None, "v", -1)], self.asked(given, ("f", (("small", 0),), None)))

    def test_numbers_one_by_one(self):
        given = library("gen h<num>", "for h<#n+2>", "  const v = h<#n>.v", "  const w = h<#n+1>.v+h<#n+2>.v")
        self.assertEqual([("far", 0), ("small", 1), ("small", 2)], [row[2][0] for row in self.asked(given, ("h", (("far", 0),), None)) if row[4] == "v"][:3])
        self.assertEqual([("small", 0), ("small", 1), ("small", 2)], [row[2][0] for row in self.asked(given, ("h", (("small", 2),), None))])

    def test_asks_that_hang_on_more_than_the_sights(self):
        given = library("gen f<type,type>", "gen g<type>", "for f<?t,?t>", "  const v = g<A>.v", "for f<?s,?t>", "  const v = g<?s>.w", "for f<A,B<?t>>", "  const v = g<?t>.x",
                        "for g<A>", "for g<B<?t>>")
        a, b, other = types(given, "A", "B<A>", "Zed")
        # Of A there is but one term, so that f<A,A> has always the first choice.
        self.assertEqual([(("base", 0), "g", (a,), None, "v", -1)], self.asked(given, ("f", (a, a), None)))
        self.assertEqual([(("base", 0), "g", (a,), None, "v", -1), (("base", 1), "g", (b,), None, "w", -1)], self.asked(given, ("f", (b, b), None)))
        self.assertEqual([(("base", 1), "g", (other,), None, "w", -1)], self.asked(given, ("f", (other, b), None)))
        self.assertEqual([(("base", 2), "g", (row,), None, "x", -1) for row in sorted([a, b, other])], self.asked(given, ("f", (a, b), None)))


class TestByOwnTrial(unittest.TestCase):
    def test_random_uses(self):
        chance = random.Random(11)
        for often in [0.1, 0.3, 0.5]:
            for _ in range(25):
                given = random_library(chance, often=often)
                for k in range(2):
                    world = World(given, k)
                    for generic in world.kinds:
                        for _ in range(15):
                            self.check_use(given, world, generic, random_terms(world, generic, chance))

    def check_use(self, given, world, generic, terms):
        sort = sort_of(given, world.k, generic, terms)
        self.assertTrue(is_sort(given, world.k, sort))
        choice = world.choice(generic, terms)
        marks, none, two = outcomes(given, world.k, sort)
        if isinstance(choice, str):
            self.assertTrue(none if choice == "none" else two)
            return
        self.assertIn(choice[0], marks)
        known = asks(given, world.k, sort)
        for ask in asks_of(given, world, choice, generic, terms):
            self.assertIn(ask, known)


def asks_of(given, world, choice, generic, terms):
    """The tuples of what a use asks, reckoned from the use itself."""
    binding = matching(choice[2], terms)
    kinds = world.kinds
    found = []
    for other, new, word, many, inner in world.asked(generic, terms)[1]:
        sort = sort_of(given, world.k, other, new)
        pile = None
        if "pile" in kinds[other]:
            _, items, rest = inner[kinds[other].index("pile")]
            laid = [sight(given, "type", item) for item in put_in_all(items, binding)]
            own = choice[2][kinds[generic].index("pile")] if "pile" in kinds[generic] else None
            if rest is None:
                pile = ("begun", tuple(laid))
            elif own is not None and own[2] == rest:
                behind = terms[kinds[generic].index("pile")][1]
                laid += [sight(given, "type", behind[0])] if not own[1] and behind else []
                pile = ("laid", tuple(laid))
            else:
                pile = ("beside", tuple(laid), sight(given, "types", binding[rest]))
        found.append((choice[0], other, sort[1], pile, word, many))
    return found


class TestGreatUses(unittest.TestCase):
    def test_deep_and_long_uses(self):
        given = library("gen f<type,types>", "for f<B<B<?t>>,(?x,?y,..?r)>")
        with NarrowStack():
            self.assertEqual(sort_of(given, 0, "f", (deep(3), wide(3))), sort_of(given, 0, "f", (deep(199), wide(3700))))


if __name__ == "__main__":
    unittest.main()
