"""Points [191] and [10]: the verdict, and what a library says with all its functions together."""

import random
import unittest

from mostspecial.books import book, unlike
from mostspecial.choices import use_text
from mostspecial.core import made
from mostspecial.early import constants
from mostspecial.errors import ChoiceError, NoChoice, TooFar, TooGreat, TooLong, TooMany, TwoChoices
from mostspecial.instances import instances, roots
from mostspecial.library import Library
from mostspecial.link import is_linked, link, run
from mostspecial.papers import is_paper
from mostspecial.plain import plain
from mostspecial.programs import Program
from mostspecial.proofs import paper_of
from mostspecial.rings import endless, no_value
from mostspecial.rows import bad, dead, needed
from mostspecial.steps import outcomes, sort_of
from mostspecial.table import met, sorts
from mostspecial.terms import named_types
from mostspecial.verdict import verdict
from tests.makers import OneMachineMaker, RichMaker, ViewsMaker
from tests.readers import Reading
from tests.test_papers import LIBRARIES
from tests.tools import NarrowStack, library, raised, told, type_of
from tests.trials import MachineMaker, Maker, World, random_library, random_terms

A = type_of("A")


def counted(first, *loop):
    """From start on, what loop is lies behind as many asks as 30 and first."""
    return ["gen start<>", "inner gen count<num,num>", "for start<>", f"  const v = count<{first},4>.v", "for count<#a+1,#b>", "  const v = count<#a,#b>.v",
            "for count<0,#b+1>", "  const v = count<6,#b>.v", "for count<0,0>", "  const v = loop<A>.v", *loop]


GOOD = ["gen f<type>", "for f<?t>", "  const v = 1"]
BAD = "gen b<type>\nfor b<B<?t>>\n  const v = 1"
LOOP = "gen l<type,type>\nfor l<?t,?c>\n  fun go(x) = l<?t,B<?c>>.go(x)"
RING = "gen r<type>\nfor r<?t>\n  const v = r<?t>.v"
OTHER = "for f<A>\n  const v = 2"


class TestVerdict(unittest.TestCase):
    def check(self, given, head, k=None):
        """Check a verdict, and that it tells what the call that decides returns."""
        found = verdict(library=given)
        self.assertEqual(found, verdict(given))
        self.assertEqual(head, found[0])
        if head == "well":
            self.assertEqual(2, len(found))
            self.assertTrue(is_paper(given, found[1]))
            self.assertEqual(len(given.views), len(found[1]))
            return found
        self.assertEqual(k, found[1])
        if head == "bad":
            self.assertEqual(bad(given, k), found[2:])
        elif head == "endless":
            self.assertEqual(endless(given, k), found[2:])
        elif head == "no value":
            self.assertEqual(no_value(given, k), found[2:])
        else:
            self.assertEqual(unlike(given), found[1:])
        self.assertFalse(is_paper(given, paper_of(given)))
        return found

    def test_each_in_the_first_and_in_a_later_view(self):
        for head, text in [("bad", BAD), ("endless", LOOP), ("no value", RING)]:
            self.check(library(*GOOD, *text.split("\n")), head, 0)
            views = [("base",), ("base",), ("more",)]
            self.check(library(*GOOD, more=text, views=views), head, 2)
            self.check(library(*GOOD, more=text, views=views[::-1]), head, 0)
            self.check(library(*GOOD, more=text), "well")
        self.check(library(*GOOD, more=OTHER, views=[("base",), ("more",)]), "unlike", 0)
        self.check(library(*GOOD, more=OTHER, views=[("base",), ("base",), ("more",)]), "unlike", 0)
        self.check(library(*GOOD, more=OTHER, views=[("more",), ("more",)]), "well")

    def test_several_hold(self):
        order = [("bad", BAD), ("endless", LOOP), ("no value", RING), ("unlike", OTHER)]
        for k, (head, text) in enumerate(order):
            for other, more in order[k + 1:]:
                rows = [text, *([] if more == OTHER else [more])]
                given = library(*GOOD, *"\n".join(rows).split("\n"), own=OTHER, views=[("base",), ("own",)])
                self.check(given, head, 0)
                # Of two views the first one counts, whatever goes wrong there.
                if other != "unlike":
                    self.check(library(*GOOD, one=more, two=text, views=[("one",), ("two",)]), other, 0)
                else:
                    self.check(library(*GOOD, one=OTHER, two=text, views=[("one",), ("base",), ("two",)]), head, 2)

    def test_what_is_told(self):
        found = self.check(library("gen f<type>", "inner gen g<type>", "for f<B<?t>>", "  const v = g<?t>.v", "for f<?t>", "  const v = 1", "for g<A>", "  const w = 1", "for g<?t>", "  const v = 1"), "bad", 0)
        self.assertEqual(("bad", 0, 1, "lacks", "f", (type_of("B", A),)), found)
        found = self.check(library(*GOOD, more=OTHER, views=[("base",), ("more",)]), "unlike", 0)
        self.assertEqual(("unlike", 0, ("f", (A,)), 1, ("f", (A,))), found)
        found = self.check(library("gen one<>", "for one<>", "  fun go() = one<>.go()"), "well")
        self.assertEqual((((("one", (), None), (), ()),),), found[1])

    def test_well(self):
        for given in LIBRARIES.values():
            self.check(given, "well")

    def test_too_long(self):
        for more, k in [(0, 0), (1, 0), (1, 1)]:
            for loop, calls in [(["inner gen loop<type>", "for loop<B<?t>>"], [bad]), (["inner gen loop<type>", "for loop<?t>", "  const v = loop<B<?t>>.v"], [endless, no_value]),
                                (["inner gen loop<type>", "for loop<?t>", "  const v = loop<?t>.v"], [no_value])]:
                text = "\n".join(counted(more, *loop))
                given = library(*GOOD, *text.split("\n")) if k == 0 else library(*GOOD, more=text, views=[("base",), ("more",)])
                for call in calls:
                    if more:
                        self.assertEqual(("TooLong", 31), told(raised(call, given, k)))
                if more:
                    self.assertEqual(("TooLong", 31), told(raised(verdict, given)))
                else:
                    self.check(given, {"bad": "bad", "endless": "endless", "no_value": "no value"}[calls[0].__name__], k)
        # What is looked at first decides: a use that goes badly too far away, or one that does so in an earlier view.
        far = counted(1, "inner gen loop<type>", "for loop<B<?t>>")
        self.assertEqual(("TooLong", 31), told(raised(verdict, library(*GOOD, *far, *LOOP.split("\n")))))
        self.check(library(*GOOD, one=LOOP, two="\n".join(far), views=[("one",), ("two",)]), "endless", 0)
        self.assertEqual(("TooLong", 31), told(raised(verdict, library(*GOOD, one=LOOP, two="\n".join(far), views=[("two",), ("one",)]))))
        near = counted(1, "inner gen loop<type>", "for loop<?t>", "  const v = 1")
        self.assertEqual(("TooLong", 31), told(raised(verdict, library(*near, more="for loop<A>\n  const v = 2", views=[("base",), ("more",)]))))

    def test_not_apart(self):
        given = library("gen f<type>", "for f<B<?t>>", "  fun go(x) = f<B<B<?t>>>.go(x)")
        self.assertEqual(("NotApart", "f", "part"), told(raised(verdict, given)))
        self.assertEqual(("NotApart", None, "size"), told(raised(verdict, Library({"base": ""}, []))))
        with NarrowStack():
            self.assertEqual(("well", ((), ())), verdict(Library({}, [(), ()])))


class TestOneLibraryMoreOrLess(unittest.TestCase):
    ROWS = ["gen f<type,type>", "inner gen run<pile>", "for f<B<?t>,?c>", "  const v = 1+f<?t,B<?c>>.v", "  fun go(x) = run<(?t,B<A>)>.go(x)", "for f<?t,?c>", "  const v = 0", "  fun go(x) = x",
            "for run<(B<?x>,..?r)>", "  fun go(x) = run<(?x,..?r)>.go(x+1)", "for run<(?x,..?r)>", "  fun go(x) = run<(..?r)>.go(x)", "for run<()>", "  fun go(x) = x"]
    MORE = {"more": "name C 0\nfor f<C,?c>\n  const v = 7\n  fun go(x) = x", "other": "gen own<num>\nfor own<#n>\n  const v = f<B<B<A>>,A>.v+#n"}

    def test_views_names_and_orders(self):
        given = library(*self.ROWS, **self.MORE, views=[("base",), ("more",), ("other",), ("more", "other")])
        self.assertEqual("well", verdict(given)[0])
        for views in [[("base",)], [("more",), ("more",)], [("other", "more"), ("base",)], [("base", "more", "other")]]:
            self.assertEqual("well", verdict(Library(given.headers, views))[0])
        headers = dict(list(given.headers.items())[::-1])
        again = Library(headers, given.views)
        self.assertEqual(verdict(given), verdict(again))
        self.assertTrue(is_paper(again, verdict(given)[1]))
        headers["names"] = "name Own 3"
        self.assertEqual("well", verdict(Library(headers, [*given.views[:3], ("names", "more")]))[0])

    def test_one_definition_less(self):
        for k, line in enumerate(self.ROWS):
            if line.startswith("for"):
                end = k + 1
                while end < len(self.ROWS) and self.ROWS[end].startswith("  "):
                    end += 1
                rows = [*self.ROWS[:k], *self.ROWS[end:]]
                # Without the definition for B<?t>, all others take what it took.
                self.assertEqual("well" if "B<?" in line else "bad", verdict(library(*rows))[0], line)

    def test_one_definition_more(self):
        for text, head in [("for f<A,?c>\n  const v = 1\n  fun go(x) = 1", "well"), ("for f<A,?c>\n  const v = 1", "well"), ("for run<(A,..?r)>\n  fun be(x) = 1", "bad"),
                           ("for run<(A,..?r)>\n  fun go(x) = run<(A,A,..?r)>.go(x)", "endless"), ("for f<A,?c>\n  const v = f<A,?c>.v", "no value"),
                           ("for f<?t,?t>\n  const v = 0\n  fun go(x) = x", "NotApart"), ("for run<(..?r)>\n  fun go(x) = x", "well")]:
            given = library(*self.ROWS, *text.split("\n"))
            self.assertEqual(head, told(raised(verdict, given))[0] if head == "NotApart" else verdict(given)[0], text)


class TestTogether(unittest.TestCase):
    """What a library says with all of its functions, and what becomes of programs that use it."""

    def units(self, given, uses):
        """A program that uses a library: for each tuple (k, generic, terms) a unit that sees view k."""
        known = {name for source in given.sources.values() for name, count in source.names}
        strange = sorted({name for _, _, terms in uses for name, many in named_types(terms)} - known)
        headers = {**given.headers, "names": "\n".join(f"name {name} 0" for name in strange)}
        texts = {}
        for at, (k, generic, terms) in enumerate(uses):
            texts["u" + "abcdefghijklmnopqrstuvwxyz"[at]] = "\n".join(["see names", *[f"see {word}" for word in given.views[k]]])
        for at, (k, generic, terms) in enumerate(uses):
            word = sorted(texts)[at]
            choice = World(given, k).choice(generic, terms)
            for member in [] if isinstance(choice, str) else choice[3]:
                args = "" if member[0] == "const" else "(" + ",".join("3" for _ in member[2]) + ")"
                texts[word] += f"\nprint {use_text(generic, terms)}.{member[1]}{args}"
        return Program(headers, {word: "\n".join(texts[word].split("\n")[:200]) for word in texts})

    def uses(self, given, chance, many):
        found = []
        for _ in range(many):
            k = chance.randrange(len(given.views))
            world = World(given, k)
            if world.openly:
                generic = chance.choice(world.openly)
                found.append((k, generic, random_terms(world, generic, chance)))
        return [row for row in found if len(use_text(*row[1:])) < 150]

    def check_well(self, given, chance):
        program = self.units(given, self.uses(given, chance, 4))
        try:
            parts = [made(program, word, 1000) for word in program.units]
        except (TooMany, TooGreat, TooFar):
            return False
        for word, part in zip(program.units, parts):
            self.assertEqual(book(program, word, roots(program, word), 1000), part[2])
        linked = link(parts)
        self.assertTrue(is_linked(linked))
        for most in (1000, 20, 3):
            self.assertEqual(*self.both(program, linked, most), given.headers)
        return True

    def both(self, program, linked, most):
        """What the plain reading of a program and the run of the linked one come to; None twice if the first is too far."""
        found = []
        for call in [(plain, program), (run, linked)]:
            try:
                found.append(call[0](call[1], most))
            except ChoiceError as error:
                found.append(type(error))
        return (None, None) if found[0] is TooFar else found

    def check_bad(self, given, found):
        head, k = found[:2]
        program = self.units(given, [(k, *found[-2:])] if head != "unlike" else [(k, *found[2]), (found[3], *found[4])])
        word = program.units[0]
        if head == "unlike":
            parts = []
            for word, use in zip(program.units, [found[2], found[4]]):
                try:
                    parts.append(({}, [], book(program, word, [use], 1000)))
                except (TooMany, TooGreat):
                    return
            self.assertEqual("Unlike", told(raised(link, parts))[0])
            return
        try:
            rows = instances(program, word, [found[-2:]], 200)
        except ChoiceError as error:
            expected = {"bad": "NoChoice TwoChoices Lacks TooMany TooGreat", "endless": "TooMany TooGreat", "no value": "TooMany TooGreat"}[head].split()
            if head == "bad":
                self.assertIn(type(error).__name__, expected, given.headers)
            else:
                self.assertTrue(type(error).__name__ in expected or Reading(World(given, k), *found[-2:]).over, given.headers)
            return
        self.assertEqual("no value", head, given.headers)
        errors = []
        for generic, terms, _ in rows:
            try:
                constants(program, word, generic, terms, 1000)
            except ChoiceError as error:
                errors.append(type(error).__name__)
        self.assertTrue({"RingOfConstants", "TooFar", "TooGreat"} & set(errors), given.headers)

    def check_parts(self, given, found, chance):
        """What `bad`, `met`, `dead`, `needed` and the outcomes of the sorts that are met say, too."""
        for k in range(len(given.views)):
            wrong = [sort for sort in sorts(given, k) if outcomes(given, k, sort)[1:] != (False, False)]
            if found == "well":
                self.assertEqual([], wrong)
                self.assertEqual([], needed(given, k))
            chosen = {mark for sort in sorts(given, k) for mark in outcomes(given, k, sort)[0]}
            self.assertEqual(sorted(row.mark for row in given.definitions_of(k) if row.mark not in chosen), dead(given, k))
            world = World(given, k)
            for _ in range(2 if world.openly else 0):
                generic = chance.choice(world.openly)
                made_uses = Reading(world, generic, random_terms(world, generic, chance), 40)
                for other, terms, choice, _ in made_uses.made.values():
                    self.assertTrue(met(given, k, other, terms))
                    self.assertIn(sort_of(given, k, other, terms), sorts(given, k))
                    if found == "well":
                        self.assertNotIsInstance(choice, str)

    def test_by_chance(self):
        chance, heads, linked = random.Random(10), [], 0
        for maker in [RichMaker] * 40 + [ViewsMaker] * 25 + [Maker] * 8 + [MachineMaker] * 8 + [OneMachineMaker] * 8:
            given = random_library(chance, maker=maker)
            try:
                found = verdict(given)
            except TooLong:
                continue
            heads.append(found[0])
            self.check_parts(given, found[0], chance)
            self.assertEqual(found[0] == "well", is_paper(given, paper_of(given)), given.headers)
            if found[0] == "well":
                self.assertTrue(is_paper(given, found[1]))
                linked += self.check_well(given, chance)
            else:
                self.check_bad(given, found)
        self.assertGreater(linked, 12)
        for head in ["well", "bad", "endless", "no value", "unlike"]:
            self.assertIn(head, heads)

    def test_bad_uses_have_no_choice(self):
        given = library("gen f<type>", "for f<B<?t>>", "  const v = f<?t>.v")
        program = self.units(given, [(0, *verdict(given)[-2:])])
        self.assertEqual(NoChoice, type(raised(instances, program, "ua", [verdict(given)[-2:]], 9)))
        given = library("gen f<type,type>", "for f<A,?t>", "for f<?t,A>", "for f<?s,?t>")
        self.assertEqual(TwoChoices, type(raised(instances, self.units(given, [(0, *verdict(given)[-2:])]), "ua", [verdict(given)[-2:]], 9)))


if __name__ == "__main__":
    unittest.main()
