"""Points [131] to [133]: looks, sights, and terms of each sight."""

import itertools
import random
import unittest

from mostspecial.errors import InvalidKind, InvalidTerm, NoTerm
from mostspecial.library import Library
from mostspecial.matches import matching
from mostspecial.sights import looks, measure, sight, sights, single, term_of
from mostspecial.terms import Names, is_closed, is_term
from mostspecial.termtexts import read_term
from tests.tools import NarrowStack, ODD_VALUES, deep, raised, type_of, wide
from tests.trials import random_library

NAMES = "name A 0\nname B 1\nname P 2"
TERM_NAMES = Names([("A", 0), ("B", 1), ("P", 2)])
A = type_of("A")
KINDS = ["type", "num", "types"]


def library(*rows, views=(("base",),), **others):
    headers = {"base": "\n".join([NAMES, *rows])}
    headers.update({word: "see base\n" + others[word] for word in others})
    return Library(headers, views)


def term(text, kind="type"):
    return read_term(text, kind, TERM_NAMES)


class TestLooks(unittest.TestCase):
    def check(self, expected, *rows, **others):
        given = library(*rows, **others)
        self.assertEqual(expected, looks(library=given))
        looks(given).clear()
        self.assertEqual(expected, looks(given))

    def test_patterns(self):
        self.check([], "gen f<type,num>", "for f<?t,#n>", "for f<?t,0>")
        self.check(["?", "B<?>"], "gen f<type>", "for f<B<?t>>", "for f<?t>")
        self.check(["A", "B<A>"], "gen f<type>", "for f<B<A>>")
        self.check(["?", "A", "B<?>", "P<B<?>,A>"], "gen f<type>", "for f<P<B<?t>,A>>")
        self.check(["?", "P<?,?>"], "gen f<type>", "for f<P<?t,?t>>", "for f<P<?s,?t>>")
        self.check(["?"], "gen f<type,type>", "for f<?t,?t>")

    def test_lists(self):
        self.check(["()"], "gen f<types>", "for f<()>")
        self.check(["(..?)", "(?,..?)", "(A,?,..?)", "?", "A"], "gen f<types>", "for f<(A,?x,..?r)>")
        self.check(["()", "(?)", "(A,?)", "?", "A"], "gen f<types>", "for f<(A,?x)>")

    def test_closed_terms_of_inner_uses(self):
        self.check(["?", "A", "B<?>", "B<A>"], "gen f<type,type>", "for f<B<?t>,?c>", "  const v = f<B<A>,B<B<A>>>.v+f<?t,?c>.v")
        self.check(["()", "(A)", "(A,B<A>,A)", "(B<A>,A)", "A", "B<A>"], "gen f<types>", "for f<()>", "  const v = f<(A,B<A>,A)>.v")
        # What is in no header's pattern and inner use is no look, and carried places tell nothing.
        self.check(["()"], "gen f<types,type>", "for f<(),?t>", "  const v = f<(),P<A,A>>.v")

    def test_piles(self):
        self.check(["?"], "gen f<pile>", "for f<(?x,..?r)>", "  const v = f<(..?r)>.v", "for f<()>")
        self.check([], "gen f<pile>", "for f<(..?r)>", "  const v = f<(..?r)>.v", "for f<()>")
        self.check(["?", "A", "B<?>", "B<A>"], "gen f<pile>", "for f<(B<?x>,..?r)>", "  const v = f<(?x,B<A>,..?r)>.v+f<()>.v")

    def test_what_is_handed_on_with_a_meet(self):
        rows = ["gen f<type,type>", "gen g<type>", "for g<A>"]
        self.check(["?", "A", "B<?>"], *rows, "for f<B<?t>,?s>", "for f<?u,A>", "  const v = g<?u>.v")
        # Here g<?u> is asked for B<P<?,?>>, which stands in no pattern.
        self.check(["?", "A", "B<?>", "P<?,?>"], *rows, "for f<?t,?t>", "for f<B<?t>,P<?x,?y>>", "for f<?u,?w>", "  const v = g<A>.v")
        rows = ["gen f<type,type,type>", "gen g<type>", "for g<A>", "for f<?t,?t,A>", "for f<B<?x>,?u,?w>"]
        self.check(["?", "A", "B<?>"], *rows, "  const v = g<?w>.v")
        self.check(["?", "A", "B<?>"], "gen f<type,type>", "gen g<type>", "for g<A>", "for f<?u,A>", "  const v = g<?u>.v", more="for f<B<?t>,?s>")

    def test_meets_that_make_looks(self):
        rows = ["gen f<type,type>", "gen g<type>", "for g<A>"]
        self.check(["?", "A", "B<?>", "P<?,A>", "P<A,?>", "P<A,A>"], *rows, "for f<P<A,?t>,?s>", "for f<P<?s,A>,B<?u>>", "  const v = g<P<?s,A>>.v")
        self.check(["?", "A", "P<?,A>", "P<A,?>", "P<A,A>"], "gen p<pile>", "for p<(P<A,?t>,..?r)>", "for p<(P<?s,A>,..?r)>", "  const v = p<(P<?s,A>,..?r)>.v")
        # The item under a bare pile whose rest is handed on, and a list that becomes the rest of a pile.
        pile = ["gen p<pile>", "gen l<types,type>", "for p<()>"]
        self.check(["?", "B<?>", "P<B<?>,?>"], "gen p<pile>", "for p<(P<B<?x>,?y>,..?r)>", "for p<(..?r)>", "  const v = p<(..?r)>.v")
        self.check(["(..?)", "(?,..?)", "(A,?,..?)", "?", "A"], *pile, "for l<(A,?x,..?r),?t>", "for l<(..?r),A>", "  const v = p<(..?r)>.v")
        self.check(["(..?)", "?", "A", "P<?,A>", "P<A,?>", "P<A,A>"], "gen own<type,types>", "gen p<type,pile>", "for p<A,()>", "for own<P<A,?t>,(..?r)>", "for own<P<?s,A>,(..?r)>",
                   "  const v = p<P<?s,A>,(..?r)>.v")

    def test_measure(self):
        for patterns, expected in [([], (1, 1)), (["#n"], (1, 1)), (["0"], (1, 1)), (["5"], (6, 1)), (["#n+4", "2"], (5, 1)), (["2*#n", "3*#n+1"], (2, 6)),
                                   (["4*#n+6", "3*#n"], (7, 12)), (["4*#n", "2*#n+1"], (2, 4))]:
            given = library("gen g<num>", *[f"for g<{pattern}>" for pattern in patterns])
            self.assertEqual(expected, measure(library=given))
        self.assertEqual((7, 1), measure(library("gen g<num>", "for g<2>", "  const v = g<6>.v")))
        self.assertEqual((3, 1), measure(library("gen g<num,num>", "for g<2,#n>", "  const v = g<1,6>.v+g<0,#n+5>.v")))
        self.assertEqual((4, 2), measure(library("gen g<num>", "for g<2>", more="for g<2*#n+3>")))


class TestSight(unittest.TestCase):
    ROWS = ("gen f<type,num,types>", "for f<P<A,B<?t>>,2*#n+3,(A,?x,..?r)>", "for f<?t,#n,()>")

    def test_sights(self):
        given = library(*self.ROWS)
        names = looks(given)
        for text in ["A", "B<A>", "P<A,B<B<A>>>", "P<A,A>", "Zed", "P<B<A>,B<Zed>>"]:
            expected = [k for k, look in enumerate(names) if not look.startswith("(") and self.takes(look, "type", term(text))]
            self.assertEqual(tuple(expected), sight(library=given, kind="type", term=term(text)))
        for text in ["()", "(A)", "(A,A)", "(B<A>,A,A)", "(A,Zed,A,A)"]:
            expected = [k for k, look in enumerate(names) if look.startswith("(") and self.takes(look, "types", term(text, "types"))]
            self.assertEqual(tuple(expected), sight(given, "types", term(text, "types")))
        self.assertEqual([("small", 0), ("small", 3), ("far", 0), ("far", 1), ("far", 0)], [sight(given, "num", k) for k in [0, 3, 4, 5, 10 ** 24]])

    def takes(self, look, kind, closed):
        """Whether a look takes a term, where each of its variables stands for anything."""
        text, many = "", 0
        for sign in look:
            text += sign
            if sign == "?":
                text += f"v{many}"
                many += 1
        return matching((term(text, kind),), (closed,)) is not None

    def test_names(self):
        given = Library({"base": "name A 0\ngen f<type>\nfor f<A>", "more": "see base\nname C 2\nfor f<C<?x,A>>"}, [("base",)])
        self.assertEqual((0,), sight(given, "type", type_of("Zed")))
        self.assertEqual(2, len(sight(given, "type", type_of("C", A, A))))
        for wrong in [type_of("C"), type_of("A", A), type_of("Zed", A), type_of("C", A)]:
            self.assertIs(InvalidTerm, type(raised(sight, given, "type", wrong)))

    def test_errors(self):
        given = library(*self.ROWS)
        for kind in [*ODD_VALUES, "pile", "Type"]:
            if kind not in KINDS:
                for function in [lambda: raised(sight, given, kind, None), lambda: raised(sights, given, 0, kind), lambda: raised(term_of, given, 0, kind, None),
                                 lambda: raised(single, given, kind, None)]:
                    self.assertIs(InvalidKind, type(function()))
                    self.assertIs(kind, function().given)
        wrong = [*ODD_VALUES, ("var", "t"), ("form", 1, "n", 0), ("list", (), "r"), ("list", (A, ("var", "t")), None), type_of("B", ("var", "t")), deep(200), wide(4001),
                 10 ** 24 + 1, type_of("P", A)]
        for kind in KINDS:
            for value in wrong:
                error = raised(sight, given, kind, value)
                self.assertIs(InvalidTerm, type(error))
                self.assertIs(value, error.given)
        self.assertIs(InvalidTerm, type(raised(sight, given, "type", 3)))
        self.assertIs(InvalidTerm, type(raised(sight, given, "num", A)))
        self.assertIs(InvalidTerm, type(raised(sight, given, "types", A)))
        self.assertIs(InvalidTerm, type(raised(sight, given, "type", ("list", (), None))))

    def test_great_terms(self):
        given = library(*self.ROWS)
        with NarrowStack():
            self.assertEqual(sight(given, "type", deep(1)), sight(given, "type", deep(199)))
            self.assertEqual(sight(given, "types", wide(2)), sight(given, "types", wide(4000)))


class TestSights(unittest.TestCase):
    def test_views_with_fewer_names(self):
        rows = {"base": "name A 0\ngen f<type>\nfor f<A>", "more": "see base\nname C 1\nfor f<C<?x>>\nfor f<C<A>>"}
        given = Library(rows, [("base",), ("more",)])
        # The looks are ?, A, C<?> and C<A>.
        self.assertEqual(["?", "A", "C<?>", "C<A>"], looks(given))
        self.assertEqual([(0,), (0, 1)], sights(library=given, k=0, kind="type"))
        self.assertEqual([(0,), (0, 1), (0, 2), (0, 2, 3)], sights(given, 1, "type"))
        self.assertEqual([True, False, True], [single(given, "type", row) for row in [(0, 1), (0, 2), (0, 2, 3)]])
        self.assertEqual(type_of("C", A), term_of(library=given, k=1, kind="type", sight=(0, 2, 3)))
        for row in [(0, 2), (0, 2, 3), (), (1,), (0, 3)]:
            error = raised(term_of, given, 0, "type", row)
            self.assertIs(NoTerm, type(error))
            self.assertIs(row, error.sight)
        self.assertIs(NoTerm, type(raised(single, given, "type", (0, 3))))
        sights(given, 0, "type").clear()
        self.assertEqual(2, len(sights(given, 0, "type")))

    def test_no_looks(self):
        given = library("gen f<type>")
        self.assertEqual([[()], [("far", 0), ("small", 0)], [()]], [sights(given, 0, kind) for kind in KINDS])
        self.assertEqual([False, False], [single(given, "type", ()), single(given, "types", ())])
        self.assertEqual(("list", (), None), term_of(given, 0, "types", ()))
        self.assertEqual("type", term_of(given, 0, "type", ())[0])

    def test_single_lists(self):
        given = library("gen f<types>", "for f<()>", "for f<(A,?x)>")
        names = looks(given)
        self.assertEqual(["()", "(?)", "(A,?)", "?", "A"], names)
        self.assertEqual([True, False], [single(given, "types", sight(given, "types", term(text, "types"))) for text in ["()", "(B<A>)"]])
        given = library("gen f<types>", "for f<(A,A)>")
        rows = {text: sight(given, "types", term(text, "types")) for text in ["(A,A)", "(A)", "()", "(A,A,A)", "(B<A>)"]}
        self.assertEqual([True, True, True, False, False], [single(given, "types", rows[text]) for text in rows])
        self.assertEqual([False, True, False], [single(given, "num", row) for row in [("far", 0), ("small", 0), ("far", 0)]])

    def test_values_that_are_no_sights(self):
        given = library("gen f<type,num,types>", "for f<A,1,(A,..?r)>", "for f<?t,2*#n,()>")
        # Equal to a sight, but not one: True stands for 1, and lists for tuples.
        kinds = {kind: sights(given, 0, kind) for kind in KINDS}
        wrong = [value for value in ODD_VALUES if value != ()]
        for kind in KINDS:
            known = kinds[kind]
            more = [list(row) for row in known] + [(row,) for row in known] + [tuple(bool(k) if k in (0, 1) else k for k in row) for row in known if set(row) & {0, 1}]
            more += [tuple([*row, 99]) for row in known] + [row[::-1] for row in known if len(row) > 1] + [("small", 2), ("small", -1), ("far", 2), ("small", [1]), ("far",)]
            for value in [*wrong, *more]:
                if value in known and type(value) is tuple and not any(isinstance(part, bool) for part in value):
                    continue
                for function in [lambda: raised(term_of, given, 0, kind, value), lambda: raised(single, given, kind, value)]:
                    self.assertIs(NoTerm, type(function()), (kind, value))
                    self.assertIs(value, function().sight)

    def test_by_own_trial(self):
        chance = random.Random(5)
        for _ in range(25):
            given = random_library(chance)
            for k in range(2):
                self.check_view(given, k)

    def check_view(self, given, k):
        own = Names([("A", 0), ("B", 1), ("P", 2)] + ([("C", 0)] if k else []))
        every = Names([("A", 0), ("B", 1), ("P", 2), ("C", 0)])
        types = [A, type_of("Zed"), type_of("Zod")] + ([type_of("C")] if k else [])
        for _ in range(2):
            types = list(dict.fromkeys(types + [type_of("B", one) for one in types] + [type_of("P", one, other) for one in types[:9] for other in types[:9]]))
        lists = [("list", items, None) for many in range(4) for items in itertools.product(types[:7], repeat=many)]
        for kind, terms in [("type", types), ("types", lists), ("num", list(range(40)))]:
            known = sights(given, k, kind)
            self.assertEqual(sorted(known), known)
            seen = {}
            for one in terms:
                seen.setdefault(sight(given, kind, one), []).append(one)
            self.assertEqual([], [row for row in seen if row not in known])
            for row in known:
                told = term_of(given, k, kind, row)
                self.assertTrue(is_term(told, kind, own) and is_term(told, kind, every) and is_closed(told))
                self.assertEqual(row, sight(given, kind, told))
                self.assertEqual(told, term_of(given, k, kind, row))
                many = str(told).count("'type'")
                self.assertTrue(all(many <= str(one).count("'type'") for one in seen.get(row, [])))
                if len(seen.get(row, [])) > 1:
                    self.assertFalse(single(given, kind, row))
                if single(given, kind, row):
                    self.assertEqual([told], seen.get(row, [told]))
                elif kind != "num":
                    # Some other term of few names has the sight, too, or one with another strange name.
                    self.assertTrue(len(seen.get(row, [])) > 1 or "Other" in str(told) or kind == "types" or len(str(told)) > 60, (row, told))


if __name__ == "__main__":
    unittest.main()
