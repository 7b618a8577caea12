"""Points [151] and [152]: sorts that are met, and the shortest roads to them."""

import random
import unittest

from mostspecial.errors import InvalidUse, NotMet, TooLong
from mostspecial.library import Library
from mostspecial.sights import term_of
from mostspecial.steps import is_sort, sort_of
from mostspecial.table import met, road, sorts
from mostspecial.terms import Names, is_use
from mostspecial.termtexts import read_terms
from tests.tools import NarrowStack, ODD_VALUES, deep, raised, told, type_of
from tests.trials import MachineMaker, World, count_of, random_library, random_terms

NAMES = "name A 0\nname B 1\nname P 2"
TERM_NAMES = Names([("A", 0), ("B", 1), ("P", 2)])
A = type_of("A")
EMPTY = ("list", (), None)


def library(*rows, views=(("base",),), **others):
    headers = {"base": "\n".join([NAMES, *rows])}
    headers.update({word: "see base\n" + others[word] for word in others})
    return Library(headers, views)


def use(given, generic, text, k=0):
    kinds = ["types" if kind == "pile" else kind for kind in given.shapes[generic].kinds]
    return read_terms(text, kinds, TERM_NAMES)


class Roads(unittest.TestCase):
    def road(self, given, generic, text, expected, k=0):
        """Check the number of asks of a road, and that its open use leads to what counts of the given use."""
        terms = use(given, generic, text) if isinstance(text, str) else text
        if expected is None:
            self.assertIs(False, met(library=given, k=k, generic=generic, terms=terms))
            self.assertEqual(("NotMet", generic, terms), told(raised(road, given, k, generic, terms)))
            return None
        self.assertIs(True, met(given, k, generic, terms))
        self.assertIn(sort_of(given, k, generic, terms), sorts(given, k))
        asks, word, start = road(library=given, k=k, generic=generic, terms=terms)
        self.assertEqual(expected, asks)
        self.assertEqual((asks, word, start), road(given, k, generic, terms))
        world = World(given, k)
        self.assertIn(word, world.openly)
        sort_of(given, k, word, start)
        wanted = count_of(given, generic, terms)
        behind = world.behind(word, start, asks, width=10 ** 6)
        self.assertIn(wanted, [count_of(given, row[1], row[2]) for row in behind if row[0] == asks])
        return word, start


class TestSorts(Roads):
    def test_open_and_inner_generics(self):
        given = library("gen f<type>", "inner gen g<type>", "inner gen h<type>", "for f<B<?t>>", "  const v = g<?t>.v", "for g<A>", "  const v = h<A>.v", "for h<A>", "for h<B<?t>>")
        a, b, other = [sort_of(given, 0, "f", use(given, "f", text))[1][0] for text in ["A", "B<A>", "P<A,A>"]]
        found = sorts(library=given, k=0)
        self.assertEqual(sorted([("f", (row,), None) for row in (a, b, other)] + [("g", (row,), None) for row in (a, b, other)] + [("h", (a,), None)]), sorted(found))
        found.clear()
        self.assertEqual(7, len(sorts(given, 0)))
        self.road(given, "f", "P<A,B<A>>", 0)
        self.road(given, "g", "P<A,B<A>>", 1)
        self.road(given, "h", "A", 2)
        self.road(given, "h", "B<A>", None)
        self.road(given, "h", (type_of("Own"),), None)

    def test_views(self):
        headers = {"base": "name A 0\ngen f<type>\ninner gen g<type>\nfor f<A>\nfor g<A>", "more": "see base\nname C 1\nfor f<C<?t>>\n  const v = g<C<?t>>.v"}
        given = Library(headers, [("base",), ("more",), ()])
        c = type_of("C", A)
        self.assertFalse(any(sort[0] == "g" for sort in sorts(given, 0)))
        self.assertTrue(met(given, 1, "g", (c,)))
        self.assertFalse(met(given, 1, "g", (A,)))
        self.assertEqual([], sorts(given, 2))
        self.assertIs(InvalidUse, type(raised(met, given, 0, "g", (c,))))

    def test_what_counts_alone(self):
        given = library("gen f<type,num>", "inner gen g<type,num>", "inner gen p<pile,type>", "for f<A,#n>", "  const v = g<A,#n>.v+p<(A,B<A>),A>.v", "for g<A,#n>", "for p<(A,..?r),?t>")
        self.road(given, "g", "A,7", 1)
        self.road(given, "f", "A,7", 0)
        # Of a pile only the first item counts.
        self.road(given, "p", "(A),B<A>", 1)
        self.road(given, "p", "(A,A,A),B<A>", 1)
        self.road(given, "p", "(B<A>),B<A>", None)
        self.road(given, "p", "(),A", None)

    def test_behind_many_asks(self):
        given = library("gen start<>", "inner gen c<num,num>", "inner gen e<>", "for start<>", "  const v = c<6,4>.v", "for c<#a+1,#b>", "  const v = c<#a,#b>.v",
                        "for c<0,#b+1>", "  const v = c<6,#b>.v", "for c<0,0>", "  const v = e<>.v", "for e<>")
        self.road(given, "c", "3,3", 11)
        self.assertEqual(("TooLong", 35), told(raised(road, given, 0, "c", (0, 0))))
        self.assertEqual(("TooLong", 36), told(raised(road, given, 0, "e", ())))
        self.road(given, "c", "5,0", 30)
        self.assertEqual(("TooLong", 31), told(raised(road, given, 0, "c", (4, 0))))
        self.assertTrue(met(given, 0, "e", ()))
        self.road(given, "c", "5,5", None)
        self.road(given, "c", "7,0", None)


class TestPiles(Roads):
    ROWS = ("inner gen run<num,pile>", "inner gen end<num>", "for run<#n,(A,..?r)>", "  const v = run<#n,(..?r)>.v", "for run<#n,(B<?x>,..?r)>",
            "  const v = run<1,(?x,A,..?r)>.v", "for run<0,()>", "  const v = end<0>.v", "for run<#n+1,()>", "  const v = end<1>.v", "for end<0>", "for end<#n>")

    def test_taken_apart_and_laid(self):
        given = library("gen start<type>", "for start<?t>", "  const v = run<0,(A,?t)>.v", *self.ROWS)
        self.road(given, "run", "0,(A)", 1)
        self.road(given, "run", "0,(B<P<A,A>>)", 2)
        self.road(given, "run", "1,(P<A,A>)", 3)
        self.road(given, "run", "1,(B<B<A>>)", 3)
        # start<A> takes run<0,(A,A)>, run<0,(A)> and run<0,()>.
        self.road(given, "run", "0,()", 3)
        self.road(given, "end", "0", 4)
        # start<B<A>> takes run<0,(A,B<A>)>, run<0,(B<A>)>, run<1,(A,A)>, run<1,(A)> and run<1,()>.
        self.road(given, "run", "1,()", 5)
        self.road(given, "end", "1", 6)
        self.road(given, "run", "2,()", None)
        self.road(given, "end", "5", None)

    def test_any_pile_of_an_open_use(self):
        given = library("gen o<num,pile>", "for o<#n,(A,..?r)>", "  const v = o<#n,(..?r)>.v", "for o<#n,(B<?x>,..?r)>", "  const v = run<#n,(..?r)>.v", *self.ROWS)
        self.road(given, "o", "5,(P<A,A>)", 0)
        self.road(given, "run", "5,(P<A,A>)", 1)
        self.road(given, "run", "0,()", 1)
        self.road(given, "end", "0", 2)
        self.road(given, "end", "1", 2)
        self.road(given, "end", "7", None)

    def test_lists_that_become_piles(self):
        given = library("gen start<types>", "for start<(A,..?r)>", "  const v = run<0,(..?r)>.v", "for start<(P<A,A>,B<?t>)>", "  const v = run<2,(?t)>.v", "for start<(B<?t>,..?r)>",
                        "  const v = run<2,(?t,A,..?r)>.v", *self.ROWS)
        self.road(given, "run", "0,(B<A>)", 1)
        self.road(given, "run", "0,()", 1)
        self.road(given, "run", "2,(P<A,A>)", 1)
        self.road(given, "run", "2,(A)", 1)
        self.road(given, "run", "2,()", 2)
        self.road(given, "run", "1,(B<P<A,A>>)", 2)
        self.road(given, "end", "0", 2)

    def test_bare_piles(self):
        given = library("gen start<type>", "for start<?t>", "  const v = run<0,(?t,A)>.v", "inner gen run<num,pile>", "inner gen two<pile>", "for run<0,(..?r)>", "  const v = two<(A,..?r)>.v",
                        "for two<(A,..?r)>", "  const v = two<(..?r)>.v", "for two<(B<?x>,..?r)>", "  const v = run<1,(..?r)>.v", "for two<()>", "  const v = run<3,()>.v",
                        "for run<3,()>")
        self.road(given, "two", "(A)", 2)
        self.road(given, "two", "(P<A,A>)", 3)
        self.road(given, "run", "1,(A)", 4)
        self.road(given, "run", "1,()", None)
        self.road(given, "two", "()", 5)
        self.road(given, "run", "3,()", 6)


    def test_inner_uses_of_one_definition_that_ask_for_one_word(self):
        # The road to run<B<A>,(A)> and no more items goes by the first inner use; the second one leads there, too,
        # but from uses with other piles.
        given = library("gen start<>", "inner gen run<type,pile>", "for start<>", "  const v = run<B<A>,(B<A>,A)>.v", "for run<B<?s>,(?x,..?r)>",
                        "  const v = run<?x,(?s,..?r)>.v+run<?x,(..?r)>.v", "for run<A,()>", "for run<?t,()>", "for run<A,(?x,..?r)>", "for run<P<A,A>,(?x,..?r)>")
        self.road(given, "run", "B<A>,(A,A)", 2)
        self.road(given, "run", "A,()", 3)
        rows = ["inner gen f<num,types>", "inner gen g<pile,type>", "gen h<type,types>", "for f<#n1,(?t2)>", "  const v = 1+g<(?t2,A),B<A>>.v", "  fun go(x) = 1",
                "  const w = 1+g<(?t2),B<B<A>>>.w", "for f<2*#n3,(A,..?r4)>", "  fun go(x) = 1+h<A,(..?r4)>.w+h<B<B<A>>,(..?r4)>.go(x)", "  const w = 1+h<A,(..?r4)>.v",
                "for g<(?t5,..?r6),B<?t7>>", "  const v = 1+h<B<A>,(B<A>,A)>.w", "  fun go(x) = 1+g<(..?r6),?t5>.go(1)+g<(?t7,..?r6),?t5>.go(x)",
                "  const w = 1+g<(?t5,B<?t7>,..?r6),P<A,A>>.v", "for g<(),?t8>", "  const v = 1+f<1,(B<A>,A)>.v", "  fun go(x) = 1+h<B<A>,(B<A>,A)>.go(x)",
                "  const w = 1+f<1,(B<A>,A)>.v", "for g<(A,..?r9),A>", "  fun go(x) = 1+h<A,(A)>.v", "for h<?t10,(A,..?r11)>", "  fun go(x) = 1+h<A,(A,..?r11)>.go(x)",
                "  const w = 1+h<?t10,()>.v", "for h<?t12,(?t13,..?r14)>", "  const v = 1+f<3,()>.w", "  const w = 1+f<3,(?t13,..?r14)>.w", "for h<B<?t15>,(?t16)>",
                "  const v = 1+f<2,()>.w+f<0,(B<A>,A)>.v", "  fun go(x) = 1+g<(?t15),?t16>.w", "  const w = 1+g<(),?t15>.v"]
        given = library(*rows)
        for sort in sorts(given, 0):
            terms = use_of_sort(given, sort)
            self.road(given, sort[0], terms, road(given, 0, sort[0], terms)[0])

    def test_lists_of_which_more_is_known_than_the_use_tells(self):
        # That the first item of the pile is A does not tell which list stood beside, but what asks for it does.
        for known, first, behind in [("(A,A,A)", "(A)", "A"), ("(A,B<A>,P<A,A>)", "(A)", "B<A>"), ("(B<B<A>>,A)", "(B<B<A>>)", "A"), ("(A)", "(A)", None)]:
            given = library("gen start<num>", "inner gen f<types>", "inner gen run<pile>", "inner gen on<pile>", "for start<#n>", f"  const v = f<{known}>.v", "for f<(..?l)>", "  const v = run<(..?l)>.v",
                            "for run<(?x,..?r)>", "  const v = on<(..?r)>.v", "for on<(..?r)>")
            self.road(given, "run", first, 2)
            self.road(given, "on", f"({behind or ''})", 3)
            for text in ["(A)", "(B<A>)", "(P<A,A>)", "(B<B<A>>)", "()"]:
                if text != first:
                    self.road(given, "run", text, None)
                if text != f"({behind or ''})":
                    self.road(given, "on", text, None)

    def test_lists_that_are_long_enough(self):
        # Only lists with three items and more come to run.
        given = library("gen start<types,type>", "inner gen run<pile,type>", "for start<(..?l),?c>", "  const v = run<(B<A>,..?l),?c>.v", "for start<(?x,?y),?c>", "for start<(?x),?c>", "for start<(),?c>",
                        "for run<(B<A>,..?r),?c>", "  const v = run<(..?r),?c>.v", "for run<(A,..?r),?c>", "  const v = run<(..?r),?c>.v", "for run<(?x,..?r),?c>", "for run<(),?c>")
        self.road(given, "run", "(P<A,A>),A", 2)
        self.road(given, "run", "(A),A", 2)
        self.road(given, "run", "(B<A>),A", 1)
        word, start = self.road(given, "run", "(),A", 5)
        self.assertEqual(3, len(start[0][1]))

    def test_lists_below_what_is_laid_or_begun(self):
        given = library("gen start<types>", "inner gen f<types,pile>", "inner gen g<pile>", "for start<(..?l)>", "  const v = f<(..?l),(A,B<A>)>.v", "for f<(P<A,A>,..?l),(A,..?r)>",
                        "  const v = f<(..?l),(..?r)>.v+g<(A,..?l)>.v", "for f<(..?l),(A,..?r)>", "  const v = g<(..?r)>.v", "for f<(B<A>,..?l),(B<A>,..?r)>", "  const v = g<(..?l)>.v", "for f<(..?l),(..?r)>",
                        "for g<(A,..?r)>", "  const v = g<(..?r)>.v", "for g<(?x,..?r)>", "for g<()>")
        self.road(given, "g", "(B<A>)", 2)
        self.road(given, "g", "(A)", 2)
        self.road(given, "g", "(P<A,A>)", 3)
        self.road(given, "g", "(B<B<A>>)", 3)
        self.road(given, "g", "()", 3)
        self.road(given, "f", "(A),(B<A>)", 2)
        self.road(given, "f", "(P<A,A>),(B<A>)", 2)
        self.road(given, "f", "(P<A,A>),()", None)


def use_of_sort(given, sort):
    """The terms of a use of a sort, with carried places of no matter."""
    generic, plain, first = sort
    left = list(plain)[::-1]
    found = []
    for place, kind in enumerate(given.shapes[generic].kinds):
        if kind == "pile":
            found.append(("list", () if first == "()" else (term_of(given, 0, "type", first),), None))
        elif place in given.shapes[generic].seen:
            found.append(term_of(given, 0, kind, left.pop()))
        else:
            found.append({"type": A, "num": 0, "types": EMPTY}[kind])
    return tuple(found)


class TestErrors(unittest.TestCase):
    def test_invalid_uses(self):
        given = library("gen f<type>", "inner gen g<>", "for f<A>")
        wrong = [("none", ()), ("f", [A]), ("f", ()), ("f", (A, A)), ("f", (("var", "t"),)), ("f", (deep(200),)), ("f", (type_of("B"),)), ("g", (A,)),
                 *[("f", value) for value in ODD_VALUES], *[(value, (A,)) for value in ODD_VALUES]]
        for generic, terms in wrong:
            for function in [met, road]:
                error = raised(function, given, 0, generic, terms)
                self.assertIs(InvalidUse, type(error))
                self.assertIs(generic, error.given[0])
                self.assertIs(terms, error.given[1])
        self.assertEqual(("NotMet", "g", ()), told(raised(road, given, 0, "g", ())))
        self.assertIs(NotMet, type(raised(road, given, 0, "g", ())))

    def test_strange_names_may_have_any_word(self):
        given = library("gen f<type,type>", "inner gen g<type>", "for f<?t,?t>", "for f<?s,?t>", "  const v = g<?s>.v", "for g<A>")
        terms = (type_of("Other"),)
        asks, word, start = road(given, 0, "g", terms)
        self.assertEqual((1, "f", type_of("Other")), (asks, word, start[0]))
        self.assertNotEqual(start[0], start[1])
        given = library("gen f<type,type>", "inner gen g<pile>", "for f<?t,?t>", "for f<?s,?t>", "  const v = g<(?s)>.v", "for g<(A,..?r)>")
        asks, word, start = road(given, 0, "g", (("list", (type_of("Other"),), None),))
        self.assertEqual((1, "f", type_of("Other")), (asks, word, start[0]))
        self.assertNotEqual(start[0], start[1])

    def test_strange_names_are_told_by_no_header(self):
        # These are names that would else be taken for strange ones, with other counts, and such that the view does not have.
        rows = ["gen f<type,type,pile>", "inner gen g<type,pile>", "for f<?s,?t,(..?r)>", "  const v = g<?s,(A,..?r)>.v", "for g<?s,(A,..?r)>", "  const v = g<?s,(..?r)>.w", "for g<A,()>"]
        for names in ["name Other 1\nname Otherb 0\nname Otherc 2", "name Other 0\nname Otherb 3\nname Otherd 0"]:
            for views in [[("base",)], [("base", "more")]]:
                given = library(*rows, more=names, views=views)
                others = Names([*TERM_NAMES.told, *[(row.split()[1], int(row.split()[2])) for row in names.split("\n")]])
                for text in ["A,()", "B<A>,(A)", "P<A,A>,(B<A>)", "Zed,(Zed)"]:
                    asks, word, start = road(given, 0, "g", read_terms(text, ("type", "types"), TERM_NAMES))
                    self.assertEqual("f", word)
                    sort_of(given, 0, "f", start)
                    self.assertTrue(is_use(start, ["type", "type", "pile"], others))
                    if views == [("base",)]:
                        self.assertFalse([name for name, _ in others.told if name[0] == "O" and repr(name) in repr(start)], start)

    def test_great_uses(self):
        given = library("gen f<type>", "inner gen g<type>", "for f<B<?t>>", "  const v = g<?t>.v", "for g<B<?t>>", "  const v = g<?t>.v")
        with NarrowStack():
            found = road(given, 0, "g", (deep(150),))
        self.assertEqual((1, "f", (deep(151),)), found)


class TestByOwnTrial(Roads):
    def test_random_libraries(self):
        chance = random.Random(3)
        for often, inner in [(0.1, 0.5), (0.3, 0.7), (0.5, 0.8), (0.15, 0.9)]:
            for _ in range(12):
                given = random_library(chance, often=often, inner=inner)
                for k in range(2):
                    self.check_view(given, k, chance)

    def test_random_machines(self):
        chance = random.Random(4)
        for often in [0, 0.2]:
            for _ in range(40):
                self.check_view(random_library(chance, maker=MachineMaker, often=often), 0, chance)

    def check_view(self, given, k, chance):
        world = World(given, k)
        found = sorts(given, k)
        self.assertEqual(len(found), len(set(found)))
        self.assertTrue(all(is_sort(given, k, sort) for sort in found))
        least = {}
        for generic in world.openly:
            for _ in range(15):
                for asks, word, terms, _, _ in world.behind(generic, random_terms(world, generic, chance), 5, width=60):
                    # What has more signs than a use may have is not looked at.
                    if len(str(terms)) < 2000:
                        sort = sort_of(given, k, word, terms)
                        self.assertIn(sort, found)
                        if asks < least.get(sort, (99,))[0]:
                            least[sort] = (asks, word, terms)
        for sort in list(least)[:25]:
            asks, word, terms = least[sort]
            self.assertLessEqual(road(given, k, word, terms)[0], asks)
            self.road(given, word, terms, road(given, k, word, terms)[0], k)
        for generic in world.kinds:
            for _ in range(6):
                terms = random_terms(world, generic, chance)
                if sort_of(given, k, generic, terms) in found:
                    self.road(given, generic, terms, road(given, k, generic, terms)[0], k)
                else:
                    self.road(given, generic, terms, None, k)


if __name__ == "__main__":
    unittest.main()
