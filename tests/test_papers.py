"""Points [174], [192] and [193]: edges, ways out and threads, and papers."""

import random
import unittest

from mostspecial.errors import NotApart
from mostspecial.library import Library
from mostspecial.papers import is_paper
from mostspecial.proofs import paper_of
from mostspecial.scopes import scope_of
from mostspecial.sights import sight
from mostspecial.steps import sort_of
from mostspecial.table import sorts
from mostspecial.terms import Names
from mostspecial.termtexts import read_terms
from tests.changes import Changer, followed, in_order, with_one_doubled, with_one_less, with_one_replaced, with_one_swapped
from tests.makers import OneMachineMaker, RichMaker
from tests.naive import is_good_part
from tests.tools import BASE_NAMES, NarrowStack, ODD_VALUES, library, raised, told, type_of
from tests.trials import MachineMaker, Maker, random_library

TERM_NAMES = Names([("A", 0), ("B", 1), ("P", 2)])
A = type_of("A")


PILE = ["gen start<type>", "inner gen run<pile,type>", "for start<?t>", "  const v = run<(A,?t,A),?t>.v", "for run<(A,..?r),?c>", "  const v = run<(..?r),?c>.v", "  const w = v+2",
        "for run<(B<?x>,..?r),?c>", "  const v = run<(A,A,..?r),?c>.w", "  const w = 1", "for run<(?x,..?r),?c>", "  const v = 1", "  const w = 1", "for run<(),?c>", "  const v = 1", "  const w = 2"]
STATES = ["gen start<type,type>", "inner gen run<num,pile,type,type>", "inner gen end<pile,type>", "for start<?c,?d>", "  const v = run<0,(P<A,A>,B<A>),?c,?d>.v", "for run<0,(P<A,A>,..?r),?c,?d>",
          "  const v = run<1,(A,P<A,A>,..?r),?c,?d>.v+w", "  const w = 2", "for run<1,(A,..?r),?c,?d>", "  const v = run<2,(B<A>,A,B<A>,..?r),?d,B<?c>>.w", "for run<2,(B<A>,..?r),?c,?d>", "  const w = run<3,(..?r),?c,B<?d>>.u",
          "for run<3,(A,..?r),?c,?d>", "  const u = run<4,(..?r),?d,A>.v+1", "for run<4,(B<A>,..?r),?c,?d>", "  const v = 3", "  const u = end<(..?r),?c>.v", "for run<#n,(..?r),?c,?d>", "  const v = 1", "  const u = v",
          "for end<(..?r),?c>", "  const v = 1"]
LIBRARIES = {
    "states": library(*STATES),
    "nothing": Library({}, [()]),
    "two views of nothing": Library({}, [(), ()]),
    "constants": library("gen f<type>", "for f<B<?t>>", "  const v = w+f<?t>.u", "  const w = 2*f<?t>.w", "  const u = 3", "for f<?t>", "  const u = 1", "  const w = u+f<A>.u"),
    "changing places": library("gen f<type,type,num>", "for f<B<?t>,?a,#n>", "  fun go(x) = f<B<?t>,?a,#n>.go(x)+f<?t,B<?a>,#n+1>.go(x)", "for f<?t,?a,#n>", "  fun go(x) = g<?a,#n>.go(x)",
                               "inner gen g<type,num>", "for g<?a,#n>", "  fun go(x) = h<B<?a>,#n+2>.go(x)", "inner gen h<type,num>", "for h<?a,#n>", "  fun go(x) = x"),
    "swapped": library("gen f<type,type,type>", "for f<B<?t>,?a,?b>", "  fun go(x) = f<B<?t>,?b,?a>.go(x)", "for f<?t,?a,?b>", "  fun go(x) = f<B<A>,P<?a,?b>,A>.go(x)"),
    "pile": library(*PILE),
    "open pile": library("gen run<pile,num>", "for run<(A,..?r),#n>", "  const v = run<(..?r),#n>.v", "for run<(..?r),#n>", "  const v = end<#n>.v", "inner gen end<num>", "for end<#n>", "  const v = 1"),
    "beside": library("gen start<types,type>", "for start<(?x,..?l),?c>", "  fun go(x) = run<(A,..?l),?c>.go(x)", "for start<(),?c>", "  fun go(x) = run<(),?c>.go(x)", "inner gen run<pile,type>",
                      "for run<(A,..?r),?c>", "  fun go(x) = run<(..?r),B<?c>>.go(x)", "for run<(?x,..?r),?c>", "  fun go(x) = run<(..?r),?c>.go(x)", "for run<(),?c>", "  fun go(x) = x"),
    "views": library("gen f<type>", "for f<?t>", "  const v = 1", more="name C 0\nfor f<C>\n  const v = 2", other="name D 1\nfor f<D<?t>>\n  const v = f<?t>.v",
                     views=[("base",), ("more",), ("more", "other"), ("base",)]),
}


def rows_with(part, *changes):
    """A part with other rows for the sorts of some rows, and those that are new."""
    found = {row[0]: row for row in part}
    found.update({row[0]: row for row in changes})
    return tuple(found.values())


class TestMade(unittest.TestCase):
    """Papers that are made of the sorts that are met hold these alone, with numbers that are just great enough."""

    def test_papers(self):
        for word, given in LIBRARIES.items():
            paper = paper_of(given)
            self.assertIs(True, is_paper(library=given, value=paper), word)
            self.assertEqual(paper, paper_of(given))
            for k, part in enumerate(paper):
                self.assertEqual(sorted(map(repr, sorts(given, k))), sorted(repr(row[0]) for row in part))
        self.assertEqual(((),), paper_of(LIBRARIES["nothing"]))

    def test_one_thing_left_out_or_doubled(self):
        for word, given in LIBRARIES.items():
            paper = paper_of(given)
            for changed in [*with_one_less(paper), *with_one_doubled(paper)]:
                self.assertIs(False, is_paper(given, changed), (word, changed))

    def test_other_orders(self):
        for word, given in LIBRARIES.items():
            paper = paper_of(given)
            for changed in with_one_swapped(paper):
                try:
                    same = in_order(changed) == in_order(paper)
                except (TypeError, ValueError, IndexError):
                    same = False
                self.assertIs(same, is_paper(given, changed), (word, changed))
            mixed = tuple(tuple((sort, tuple((*way[:4], way[4][::-1]) for way in ways[::-1]), numbers[::-1]) for sort, ways, numbers in part[::-1]) for part in paper)
            self.assertTrue(is_paper(given, mixed))

    def test_other_kinds_of_values(self):
        def news(value):
            if isinstance(value, tuple):
                yield list(value)
                yield from [None, "x", 0, {}]
            elif isinstance(value, bool):
                yield from [int(value), None, not value]
            elif isinstance(value, int):
                yield from [None, str(value), (value,), bool(value), -1 if value >= 0 else -2, value + 10 ** 9]
            else:
                yield from [None, 0, True, "V", "", [value]]
        for word, given in LIBRARIES.items():
            paper = paper_of(given)
            for changed in with_one_replaced(paper, news):
                # Only a number may be greater, where there is nothing that must not be less.
                if repr(changed) != repr(paper) and is_paper(given, changed):
                    self.assertIn(str(10 ** 9)[:-2], repr(changed), word)
                    self.assertTrue(all(is_good_part(given, k, part) for k, part in enumerate(changed)), (word, changed))

    def test_numbers_just_great_enough(self):
        for word, given in LIBRARIES.items():
            paper = paper_of(given)
            for more in (1, 10 ** 30):
                raised_all = tuple(tuple((sort, ways, tuple((a, number + more) for a, number in numbers)) for sort, ways, numbers in part) for part in paper)
                self.assertTrue(is_paper(given, raised_all))
            for k, part in enumerate(paper):
                for sort, ways, numbers in part:
                    for at, (a, number) in enumerate(numbers):
                        less = (sort, ways, (*numbers[:at], (a, number - 1), *numbers[at + 1:]))
                        changed = (*paper[:k], rows_with(part, less), *paper[k + 1:])
                        self.assertIs(False, is_paper(given, changed), (word, less))

    def test_any_values(self):
        for given in LIBRARIES.values():
            for value in [*ODD_VALUES, paper_of(LIBRARIES["pile"]), paper_of(LIBRARIES["views"])]:
                if value != paper_of(given):
                    self.assertIs(False, is_paper(given, value))
        deep_value = ()
        for _ in range(28):
            deep_value = (deep_value, deep_value[:1])
        term = type_of("A")
        for _ in range(299):
            term = type_of("B", term)
        with NarrowStack():
            for given in LIBRARIES.values():
                for value in [deep_value, term, (term,), ((term,),), ((((term, term, term),),),), ((("f", ((term,),), None), (), ()),)]:
                    self.assertIs(False, is_paper(given, value))

    def test_libraries_that_do_not_take_apart(self):
        given = library("gen f<type>", "for f<B<?t>>", "  fun go(x) = f<B<B<?t>>>.go(x)")
        for value in [*ODD_VALUES, ((),)]:
            self.assertEqual(("NotApart", "f", "part"), told(raised(is_paper, given, value)))
        self.assertIs(NotApart, type(raised(is_paper, Library({}, []), ())))


class TestForm(unittest.TestCase):
    def test_parts(self):
        given = LIBRARIES["views"]
        paper = paper_of(given)
        for value in [paper[:3], (*paper, paper[0]), (paper[1], paper[0], *paper[2:]), paper[::-1], (*paper[:3], ())]:
            self.assertFalse(is_paper(given, value))
        # All that view 0 has is also right in view 3, and the other way round.
        self.assertTrue(is_paper(given, (paper[3], *paper[1:3], paper[0])))

    def test_what_is_followed(self):
        given = library("gen f<type,type,pile>", "for f<?t,?c,(..?r)>", "  const v = 1", "for f<?t,?c,()>", "  const w = 2", "for f<B<?t>,?c,(..?r)>", "  const v = 3", "  const u = 4",
                        "for f<B<?t>,?c,()>", "  const u = 4")
        paper = paper_of(given)
        self.assertTrue(is_paper(given, paper))
        rows = {row[0]: row[2] for row in paper[0]}
        b, other = sight(given, "type", type_of("B", A)), sight(given, "type", A)
        self.assertEqual({1: 0, 2: 0, "w": 0}, dict(rows[("f", (other,), "()")]))
        self.assertEqual({1: 0, 2: 0, "v": 0, "u": 0}, dict(rows[("f", (b,), other)]))
        for numbers in [((1, 0), (2, 0)), ((1, 0), (2, 0), ("v", 0)), ((1, 0), (2, 0), ("w", 0), ("v", 0)), ((0, 0), (1, 0), (2, 0), ("w", 0)), ((1, 0), (3, 0), ("w", 0)), (("1", 0), (2, 0), ("w", 0)),
                        ((1, 0), (2, 0), ("w", 0), (1, 0)), ((True, 0), (2, 0), ("w", 0)), ((1, True), (2, 0), ("w", 0)), ((1, 0), (2, 0), ("w", -1)), ((1, 0), (2, 0), ("w", 0, 0))]:
            self.assertFalse(is_paper(given, (rows_with(paper[0], (("f", (other,), "()"), (), numbers)),)), numbers)

    def test_constants_of_all_choices_of_a_sort(self):
        # Of one sort some uses have the first definition as their choice, and some the second one.
        given = library("gen f<type,type>", "for f<?t,?t>", "  const v = 1", "for f<?s,?t>", "  const w = 1")
        paper = paper_of(given)
        self.assertEqual({"v": 0, "w": 0}, dict(paper[0][0][2]))
        self.assertTrue(is_paper(given, paper))
        self.assertFalse(is_paper(given, (((paper[0][0][0], (), (("v", 0),)),),)))

    def test_ways(self):
        given = library(*PILE)
        paper = paper_of(given)
        row = [row for row in paper[0] if row[1]][0]
        way = row[1][0]
        sort = row[0]
        for other in [way[:4], (*way, ()), ("start", way[1], *way[2:]), ("none", *way[1:]), (way[0], (), *way[2:3]), (*way[:1], ((0,),), *way[2:]), (*way[:2], "V", *way[3:]), (*way[:2], "if", *way[3:]),
                      (*way[:2], None, *way[3:]), (*way[:3], -2, way[4]), (*way[:3], True, way[4]), (*way[:3], None, way[4]), (*way[:4], None), (*way[:4], list(way[4])), list(way), None, ()]:
            self.assertFalse(is_paper(given, (rows_with(paper[0], (sort, (*row[1], other), row[2])),)), other)
            self.assertFalse(is_paper(given, (rows_with(paper[0], (sort, (other, *row[1][1:]), row[2])),)), other)
        for thread in [(0, 1), (0, 0, 0), (0, 0, None), (2, 0, True), ("x", "v", True), ("v", "w", True), (0, "x", True), (True, 1, True), (1, True, True), (1, 0, 1), [1, 0, True], None, ()]:
            changed = (*way[:4], (*way[4], thread))
            self.assertFalse(is_paper(given, (rows_with(paper[0], (sort, (changed, *row[1][1:]), row[2])),)), thread)
        # A sort without a first item has no ways.
        for other in paper[0]:
            if other[0][2] in (None, "()"):
                for threads in (way[4], ()):
                    self.assertFalse(is_paper(given, (rows_with(paper[0], (other[0], ((*way[:4], threads),), other[2])),)))

    def test_ways_that_nobody_goes(self):
        # Nothing is ever laid on what is told here, so these ways must only have the form of ways.
        given = library("gen f<num>", "for f<#n>", "  const v = 1", "inner gen run<num,pile,type>", "for run<0,(A,..?r),?c>", "  const v = 1", "for run<#n,(..?r),?c>", "  const w = 1")
        paper = paper_of(given)
        sort = sort_of(given, 0, "run", (0, ("list", (A,), None), A))
        plain = sort[1]
        numbers = ((1, 0), (2, 0), ("v", 0))
        self.assertTrue(is_paper(given, ((*paper[0], (sort, (), numbers)),)))
        good = [("run", plain, "zz", 7, ()), ("run", plain, "v", -1, ()), ("run", plain, "v", 0, ((1, 2, True), ("v", 1, False), (2, 2, True), (2, 2, False))), ("run", plain, "zz", -1, (("v", "zz", True),)),
                ("run", (("far", 0),), "v", 10 ** 30, ())]
        wrong = [("run", plain, "zz", -2, ()), ("run", plain, "zZ", 7, ()), ("run", plain, "", 7, ()), ("run", plain, "print", 7, ()), ("run", plain, "zz", True, ()), ("run", plain, "zz", "7", ()), ("f", (("small", 0),), "v", -1, ()),
                 ("run", (), "v", -1, ()), ("run", (("small", 9),), "v", -1, ()), ("none", plain, "v", -1, ()), ("run", plain, "v", -1, ((0, 1, True),)), ("run", plain, "v", -1, ((1, 0, True),)), ("run", plain, "v", -1, (("w", "v", True),)),
                 ("run", plain, "v", -1, (("v", "w", True),)), ("run", plain, "v", 0, (("v", "v", True),)), ("run", plain, "v", -1, ((1, 1, True), (1, 1, True))), ("run", plain, "v", -1, ((1, 1, 1),)), ("run", plain, "v", -1, ((1, 1),)),
                 ("run", plain, "v", -1, ((True, 1, True),)), ("run", plain, "v", -1, ((1, True, True),)), ("run", plain, "v", -1, [(1, 1, True)]), ("run", plain, "v", -1, ([1, 1, True],)), ("run", list(plain), "v", -1, ()),
                 ("run", plain, "v", -1), ("run", plain, "v", -1, (), ()), ["run", plain, "v", -1, ()], ("run", plain, "v", -1, None), ("run", plain, ("v",), -1, ()), ("run", plain, None, -1, ())]
        for way in good:
            self.assertTrue(is_paper(given, ((*paper[0], (sort, (way,), numbers)),)), way)
            self.assertFalse(is_paper(given, ((*paper[0], (sort, (way, way[:4] + ((),)), numbers)),)), way)
        self.assertTrue(is_paper(given, ((*paper[0], (sort, tuple(good), numbers)),)))
        for way in wrong:
            self.assertFalse(is_paper(given, ((*paper[0], (sort, (way,), numbers)),)), way)
            self.assertFalse(is_paper(given, ((*paper[0], (sort, (*good, way), numbers)),)), way)


class TestEdges(unittest.TestCase):
    """What papers must hold tells where edges lead, and what threads they have."""

    def check(self, given, part, good, k=0):
        value = (part,)
        self.assertIs(good, is_paper(given, value), part)
        self.assertIs(good, is_good_part(given, k, part), part)

    def numbers(self, given, *uses):
        """The least numbers of what is followed, for the sorts of some uses, by the texts of these."""
        paper = paper_of(given)
        self.assertTrue(is_paper(given, paper))
        found = []
        for generic, text in uses:
            kinds = ["types" if kind == "pile" else kind for kind in given.shapes[generic].kinds]
            sort = sort_of(given, 0, generic, read_terms(text, kinds, TERM_NAMES))
            found.append({row[0]: dict(row[2]) for row in paper[0]}[sort])
        return found

    def test_ties(self):
        rows = ["gen f<num,type,type,type>", "inner gen g<type,type>", "for f<0,?a,?b,?c>", "  fun go(x) = g<{},{}>.go(x)", "for f<#n,?a,?b,?c>", "  fun go(x) = x", "for g<?a,?b>", "  fun go(x) = h<B<?a>,?b>.go(x)",
                "inner gen h<type,type>", "for h<?a,?b>", "  fun go(x) = x"]
        for one, two, expected in [("?a", "?b", {1: 1, 2: 0, 3: 0}), ("B<?a>", "?b", {1: 2, 2: 0, 3: 0}), ("P<?c,?a>", "B<?b>", {1: 2, 2: 1, 3: 2}), ("?b", "P<?c,?a>", {1: 1, 2: 1, 3: 1}),
                                   ("A", "?b", {1: 0, 2: 0, 3: 0})]:
            text = "\n".join(rows).split("{}")
            self.assertEqual([expected], self.numbers(library(text[0] + one + text[1] + two + text[2]), ("f", "0,A,A,A")))

    def test_what_is_not_still_has_no_threads(self):
        rows = ["gen f<type,num>", "for f<{},#n>", "  const v = g<{},#n+1>.v", "for f<?t,#n>", "inner gen g<type,num>", "for g<{},#n>", "  const v = 1", "for g<?t,#n>", "  const v = 1"]
        for pattern, term, other, expected in [("B<?t>", "?t", "A", {1: 0, "v": 0}), ("B<?t>", "B<?t>", "B<?t>", {1: 1, "v": 1}), ("B<?t>", "A", "A", {1: 0, "v": 0}), ("B<A>", "A", "A", {1: 1, "v": 1})]:
            text = "\n".join(rows).split("{}")
            given = library(text[0] + pattern + text[1] + term + text[2] + other + text[3])
            self.assertEqual([expected], self.numbers(given, ("f", "B<A>,0") if pattern == "B<A>" else ("f", "B<P<A,A>>,0")))

    def test_what_is_still_under_a_bare_pile(self):
        rows = ["gen run<pile,type>", "for run<(),?c>", "  fun go(x) = x", "for run<(..?r),?c>", "  fun go(x) = on<{},B<?c>>.go(x)", "inner gen on<pile,type>", "for on<(..?r),?c>", "  fun go(x) = x"]
        for term, known, unknown in [("(..?r)", 1, 1), ("(A,..?r)", 1, 1), ("(A,A)", 1, 0), ("()", 1, 0)]:
            # The sort with A is known by its look, that with B<A> is not.
            given = library(*[row.format(term) for row in rows], "gen f<type>", "for f<A>", "for f<?t>")
            found = self.numbers(given, ("run", "(A),A"), ("run", "(B<A>),A"), ("run", "(),A"))
            self.assertEqual([known, unknown, 0], [row[1] for row in found])

    def test_ties_go_on_through_further_ways(self):
        given = library(*STATES)
        a, b, p = [sight(given, "type", term) for term in (A, type_of("B", A), type_of("P", A, A))]
        rows = {row[0]: row[1:] for row in paper_of(given)[0]}
        ways = {(sort[1][0][1], sort[2]): {way[:4]: set(way[4]) for way in told_ways} for sort, (told_ways, _) in rows.items() if sort[0] == "run"}
        self.assertEqual({(4, b): {("end", (), "v", -1): {(1, 0, False), (2, 1, False), ("u", "v", True)}},
                          (3, a): {("run", (("small", 4),), "v", -1): {(1, 1, False), (3, 2, False), ("u", "v", True)}},
                          (2, b): {("run", (("small", 3),), "u", -1): {(1, 1, False), (2, 2, False), (3, 3, True), ("w", "u", True)}},
                          # Here c goes to d, there again to d, then to c, and so to the place of end, by a greater term; d goes to c, and is dropped.
                          (1, a): {("end", (), "v", -1): {(1, 0, False), (2, 1, True)}}, (0, p): {}}, ways)
        # Behind v of start lie three constants, one after another.
        self.assertEqual({0: 1, 1: 0, "v": 3}, dict(rows[("start", (), None)][1]))

    def test_ties_go_on_through_ways(self):
        rows = ["gen start<type,type>", "inner gen run<pile,type,type>", "for start<?a,?b>", "  const v = run<(A,B<A>),{}>.v", "for run<(A,..?r),?a,?b>", "  const v = run<(..?r),{}>.v",
                "for run<(?x,..?r),?a,?b>", "  const v = end<{}>.v", "for run<(),?a,?b>", "  const v = 1", "inner gen end<type,type>", "for end<?a,?b>", "  const v = 1"]
        for one, two, three, expected in [("?a,?b", "?a,?b", "?a,?b", {0: 0, 1: 0, "v": 2}), ("B<?a>,?b", "?b,?a", "A,B<?b>", {0: 2, 1: 0, "v": 2}), ("?a,?b", "P<?a,?b>,A", "?a,?b", {0: 1, 1: 1, "v": 2}),
                                          ("?a,?b", "B<?a>,?b", "B<?a>,B<?b>", {0: 2, 1: 1, "v": 2})]:
            text = "\n".join(rows).split("{}")
            given = library(text[0] + one + text[1] + two + text[2] + three + text[3])
            self.assertEqual([expected], self.numbers(given, ("start", "A,A")))

    def test_a_greater_tie_of_a_further_way(self):
        rows = ["gen start<type>", "inner gen run<pile,type>", "for start<?c>", "  fun go(x) = run<(P<A,A>),?c>.go(x)", "for run<(P<A,A>,..?r),?c>", "  fun go(x) = run<(B<A>,..?r),{}>.go(x)",
                "for run<(B<A>,..?r),?c>", "  fun go(x) = end<(..?r),{}>.go(x)", "for run<(..?r),?c>", "  fun go(x) = x", "inner gen end<pile,type>", "for end<(..?r),?c>", "  fun go(x) = x"]
        for one, two, falls in [("?c", "?c", False), ("B<?c>", "?c", True), ("?c", "B<?c>", True), ("B<?c>", "B<?c>", True)]:
            text = "\n".join(rows).split("{}")
            given = library(text[0] + one + text[1] + two + text[2])
            part = paper_of(given)[0]
            self.check(given, part, True)
            row = [row for row in part if row[0] == sort_of(given, 0, "run", (("list", (type_of("P", A, A),), None), A))][0]
            self.assertEqual([{(0, 0, False), (1, 1, falls)}], [set(way[4]) for way in row[1]])
            for thread, good in [((1, 1, falls), True), ((1, 1, not falls), False)]:
                way = (*row[1][0][:4], ((0, 0, False), thread))
                self.check(given, rows_with(part, (row[0], (way,), row[2])), good)

    def test_a_list_beside_that_cannot_be_empty(self):
        # Of the uses of go that have the second choice, none leads to a use of run with nothing on its pile.
        rows = ["gen go<types>", "inner gen run<pile>", "for go<()>", "  const v = 1", "for go<(..?r)>", "  const v = run<(..?r)>.v", "for run<(?x,..?p)>", "  const v = 1"]
        given = library(*rows)
        part = paper_of(given)[0]
        self.check(given, part, True)
        self.assertNotIn("()", [row[0][2] for row in part])
        self.check(given, tuple(row for row in part if row[0][0] == "go"), False)
        # Here one does, so it must have a choice.
        given = library(*rows[:2], *rows[4:])
        self.check(given, paper_of(given)[0], False)
        given = library(*rows[:2], *rows[4:], "for run<()>", "  const v = 2")
        part = paper_of(given)[0]
        self.check(given, part, True)
        for row in part:
            self.check(given, tuple(other for other in part if other != row), False)

    def test_what_stays_laid(self):
        rows = ["gen start<>", "inner gen run<num,pile>", "for start<>", "  fun go(x) = run<0,(A)>.go(x)", "for run<0,(A,..?r)>", "  fun go(x) = run<1,({}..?r)>.go(x)",
                "for run<1,(A,..?r)>", "  fun go(x) = run<2,({}..?r)>.go(x)", "for run<#n,(..?r)>", "  fun go(x) = x"]
        for one, two, expected in [("A,", "A,", 0), ("A,A,", "A,", 1), ("A,A,A,", "A,A,", 2), ("A,", "A,A,A,", 1), ("", "A,A,", 0), ("B<A>,", "", 0)]:
            text = "\n".join(rows).split("{}")
            found = self.numbers(library(text[0] + one + text[1] + two + text[2]), ("run", "0,(A)"))
            self.assertEqual([{1: expected}], found)

    def test_begun_and_beside_have_no_thread_of_the_pile(self):
        rows = ["gen run<types,pile>", "for run<(..?l),(A,..?r)>", "  fun go(x) = run<(),{}>.go(x)", "for run<(..?l),(..?r)>", "  fun go(x) = x"]
        for laid, expected in [("(A,A)", 0), ("(A,A,A)", 0), ("(A,A,..?l)", 0), ("(..?r)", 0)]:
            given = library(*[row.format(laid) for row in rows])
            self.assertEqual(expected, self.numbers(given, ("run", "(),(A)"))[0][1])

    def test_constants(self):
        rows = ["gen f<num>", "for f<#n+3>", "  const a = b+1", "  const b = 2*c", "  const c = f<2>.{}", "  const d = 1", "for f<2>", "  const a = f<1>.b", "  const b = f<1>.b+f<1>.a", "  fun go() = f<1>.b",
                "for f<1>", "  const a = f<0>.a", "  const b = a", "for f<0>", "  const a = 1"]
        for word, expected in [("a", 3), ("b", 3)]:
            given = library(*[row.format(word) for row in rows])
            # The sort of f<3> is known; f<7> has another sight.
            self.assertEqual([{"a": 3, "b": 3, "c": 3, "d": 0}], self.numbers(given, ("f", "3")))
            self.assertEqual([{"a": 2, "b": 2}, {"a": 1, "b": 1}, {"a": 0}], self.numbers(given, ("f", "2"), ("f", "1"), ("f", "0")))

    def test_ways_of_open_generics(self):
        given = LIBRARIES["open pile"]
        paper = paper_of(given)
        # Below A anything may lie on the pile of an open use, also nothing.
        laid = [row for row in paper[0] if row[1]]
        self.assertEqual(1, len(laid))
        self.assertEqual([("run", (), "v", -1)], [way[:4] for way in laid[0][1]])
        # What the way out of an open use leads to must have the members that are asked there, in every sort.
        rows = ["gen run<pile>", "for run<(A,..?r)>", "  fun go(x) = on<(..?r)>.be(x)", "for run<(..?r)>", "  fun go(x) = x", "inner gen on<pile>", "for on<(..?r)>", "  fun be(x) = x", "for on<(B<?x>,..?r)>", "  fun {}(x) = 1"]
        for word, good in [("be", True), ("go", False)]:
            given = library(*[row.format(word) for row in rows])
            self.check(given, paper_of(given)[0], good)
        rows[5] = "inner gen on<pile>\ngen start<>\nfor start<>\n  fun go(x) = run<(A,A)>.go(x)+run<(A)>.go(x)"
        given = library("inner " + rows[0], *[row.format("go") for row in rows[1:]])
        # Nobody lays a B<?> below A there.
        self.check(given, paper_of(given)[0], True)

    def test_ways_of_ways_of_open_generics(self):
        rows = ["gen run<pile>", "for run<(A,..?r)>", "  fun go(x) = on<(..?r)>.be(x)", "for run<(..?r)>", "  fun go(x) = x", "inner gen on<pile>", "for on<(A,..?r)>", "  fun be(x) = end<(..?r)>.so(x)", "for on<(..?r)>",
                "  fun be(x) = x", "inner gen end<pile>", "for end<(..?r)>", "  fun so(x) = x", "for end<(B<?x>,..?r)>", "  fun {}(x) = 1"]
        for word, good in [("so", True), ("go", False)]:
            given = library(*[row.format(word) for row in rows])
            self.check(given, paper_of(given)[0], good)
            if good:
                part = paper_of(given)[0]
                for row in part:
                    self.check(given, tuple(other for other in part if other != row), False)
            self.assertEqual(3 * (1 + len(scope_of(given, 0).sights["type"])), len(paper_of(given)[0]))

    def test_further_ways(self):
        # The way of the first sort is also one by another sort: behind it the one item more is taken off.
        rows = ["gen start<types>", "inner gen run<pile>", "for start<(..?l)>", "  fun go(x) = run<(A,P<A,A>,..?l)>.go(x)", "for run<(A,..?r)>", "  fun go(x) = run<(B<A>,B<A>,..?r)>.go(x)",
                "for run<(B<A>,..?r)>", "  fun go(x) = run<(..?r)>.go(x)", "for run<(?x,..?r)>", "  fun go(x) = end<(..?r)>.we(x)", "for run<()>", "  fun go(x) = x", "inner gen end<pile>", "for end<(..?r)>", "  fun we(x) = x"]
        given = library(*rows)
        paper = paper_of(given)
        self.check(given, paper[0], True)
        ways = {row[0]: [way[:4] for way in row[1]] for row in paper[0]}
        a, b, p, other = [sight(given, "type", term) for term in [A, type_of("B", A), type_of("P", A, A), type_of("Zed")]]
        self.assertEqual([("run", (), "go", 1)], ways[("run", (), a)])
        self.assertEqual([("run", (), "go", 1)], ways[("run", (), b)])
        self.assertEqual([("end", (), "we", 1)], ways[("run", (), p)])
        # All that may be the first item of the list that stood beside, and nothing, is held for end.
        self.assertEqual({("end", (), first) for first in ["()", *scope_of(given, 0).sights["type"]]}, {sort for sort in ways if sort[0] == "end"})
        self.assertNotIn(("run", (), other), ways)


    def test_each_use_of_a_sort_has_a_choice(self):
        rows = ["gen f<type,type>", "for f<?s,?t>", "  const v = 1", "for f<?t,?t>", "  const v = 2", "for f<?s,B<?t>>", "  const v = 3", "for f<B<?t>,B<?t>>", "  const v = 4"]
        for left, good in [((), True), ((1, 2), False), ((7, 8), False), ((5, 6), True), ((3, 4, 7, 8), True), ((1, 2, 5, 6, 7, 8), False)]:
            given = library(*[row for at, row in enumerate(rows) if at not in left])
            self.check(given, paper_of(given)[0], good)

    def test_each_choice_of_a_sort_has_what_is_asked(self):
        rows = ["gen f<type,type>", "inner gen g<type,type>", "for f<?s,?t>", "  {}", "for g<?s,?t>", "  const v = 1", "  fun go(x) = x", "for g<?t,?t>", "  const {} = 1", "  fun go({}) = 1"]
        for asking, word, parameters, good in [("const v = g<?s,?t>.v", "v", "x", True), ("const v = g<?s,?t>.v", "w", "x", False), ("const w = 1", "w", "", True), ("fun go(x) = g<?s,?t>.go(x)", "w", "y", True),
                                               ("fun go(x) = g<?s,?t>.go(x)", "v", "", False), ("fun go(x) = g<?s,?t>.go(x)", "v", "x,y", False)]:
            text = "\n".join(rows).split("{}")
            given = library(text[0] + asking + text[1] + word + text[2] + parameters + text[3])
            self.check(given, paper_of(given)[0], good)
        # Likewise what lies behind a way out of an open use.
        rows = ["gen run<type,type,pile>", "inner gen end<type,type,pile>", "for run<?s,?t,(A,..?p)>", "  const v = end<?s,?t,(..?p)>.v", "for run<?s,?t,(..?p)>", "for end<?s,?t,(..?p)>", "  const v = 1",
                "for end<?t,?t,(..?p)>", "  const {} = 1"]
        for word, good in [("v", True), ("w", False)]:
            given = library(*[row.format(word) for row in rows])
            self.check(given, paper_of(given)[0], good)


class TestMore(unittest.TestCase):
    def test_sorts_beyond_those_that_are_needed(self):
        given = library("gen f<num>", "for f<0>", "  const v = 1", "inner gen g<num,type>", "for f<#n+1>", "  const v = 1", "for g<0,?c>", "  const v = g<1,B<?c>>.v", "for g<2,?c>", "  const v = g<0,?c>.v",
                        "for g<1,?c>", "  const v = 1", "for g<3,?c>", "  const v = g<2,A>.w", "for g<4,?c>")
        paper = paper_of(given)
        held = [("g", (("small", k),), None) for k in range(5)]
        numbers = [{1: 1, "v": 1}, {1: 0, "v": 0}, {1: 1, "v": 2}, {1: 0, "v": 0}, {1: 0}]
        rows = [(sort, (), tuple(row.items())) for sort, row in zip(held, numbers)]
        for more, good in [((), True), ((1,), True), ((0,), False), ((0, 1), True), ((2, 0, 1), True), ((2, 1), False), ((3, 2, 1, 0), False), ((4,), True), ((4, 1, 0), True)]:
            value = ((*paper[0], *[rows[k] for k in more]),)
            self.assertIs(good, is_paper(given, value), more)
        for k, less in [(0, 1), (0, "v"), (2, 1), (2, "v")]:
            other = dict(numbers[k], **{}) | {less: numbers[k][less] - 1}
            changed = [(held[k], (), tuple(other.items())) if k == at else rows[at] for at in (0, 1, 2)]
            self.assertFalse(is_paper(given, ((*paper[0], *changed),)), (k, less))
        # There is no use of f without a choice, but there are some of this sort of g.
        self.assertFalse(is_paper(given, ((*paper[0], (("g", (("far", 0),), None), (), ((1, 0),))),)))

    def test_unlike_choices_of_two_views(self):
        rows = ["gen f<type>", "inner gen g<type>", "for f<?t>", "  const v = 1", "for g<?t>", "  const v = 1"]
        given = library(*rows, more="for g<A>\n  const v = 2", other="for g<A>\n  const v = 3\nfor g<B<?t>>\n  const v = 4", own="name C 0\nfor g<C>\n  const v = 5", views=[("more",), ("other",), ("own",)])
        paper = paper_of(given)
        self.assertTrue(is_paper(given, paper))

        def with_sorts(*names):
            parts = []
            for k, (part, terms) in enumerate(zip(paper, names)):
                sorts_more = [sort_of(given, k, "g", (term,)) for term in terms]
                parts.append((*part, *[(sort, (), tuple((a, 0) for a in followed(given, k, sort))) for sort in sorts_more]))
            return tuple(parts)
        a, b, zed, c = A, type_of("B", A), type_of("Zed"), type_of("C")
        for names, good in [(([a], [], []), True), (([a], [a], []), False), (([a], [b], [zed]), True), (([b], [b], []), False), (([zed], [zed], [zed, c]), True), (([b, a], [], [b]), True), (([a], [], [a]), False),
                            (([], [a], [a]), False), (([], [], [a, b, c]), True)]:
            self.assertIs(good, is_paper(given, with_sorts(*names)), names)

    def test_names_that_one_view_has(self):
        # With C, f has another choice, but no use of both views has C.
        given = library("gen f<type>", "for f<?t>", "  const v = 1", more="name C 0\nfor f<C>\n  const v = 2", views=[("base",), ("more",)])
        self.assertTrue(is_paper(given, paper_of(given)))
        given = Library({"base": BASE_NAMES + "\nname C 0\ngen f<type>\nfor f<?t>\n  const v = 1", "more": "see base\nfor f<C>\n  const v = 2"}, [("base",), ("more",)])
        self.assertFalse(is_paper(given, paper_of(given)))


class TestByPaths(unittest.TestCase):
    def test_by_chance(self):
        chance, answers = random.Random(193), []
        while len(answers) < 1200:
            given = random_library(chance, maker=chance.choice([RichMaker, RichMaker, Maker, MachineMaker, OneMachineMaker]))
            given = Library(given.headers, given.views[:1])
            paper = paper_of(given)
            good = is_paper(given, paper)
            self.assertIs(good, is_good_part(given, 0, paper[0]), given.headers)
            if good or chance.random() < 0.2:
                changer = Changer(chance, given, 0)
                for _ in range(12):
                    changed = changer.changed(paper[0])
                    answers.append(is_paper(given, (changed,)))
                    self.assertIs(answers[-1], is_good_part(given, 0, changed), (given.headers, changed))
        self.assertGreater(answers.count(True), 300)
        self.assertGreater(answers.count(False), 300)


if __name__ == "__main__":
    unittest.main()
