"""Point [213]: drawings."""

import random
import unittest

from mostspecial.drawn import draw
from mostspecial.steps import outcomes
from mostspecial.table import sorts
from tests.makers import RichMaker
from tests.tools import NarrowStack, ODD_VALUES, library, raised, told
from tests.trials import random_library


class TestDraw(unittest.TestCase):
    def check(self, expected, given, k=0):
        found = draw(library=given, k=k)
        self.assertEqual(expected, found)
        found.clear()
        self.assertEqual(expected, draw(given, k))

    def test_types(self):
        self.check([], library())
        self.check(["one<>: none"], library("gen one<>"))
        self.check(["one<>: base.0"], library("gen one<>", "for one<>"))
        self.check(["f<>: base.0"], library("gen f<type,num>", "for f<?t,#n>"))
        # No look takes a strange name here.
        self.check(["f<->: none", "f<0>: base.0"], library("gen f<type>", "for f<A>"))
        self.check(["f<0+1,0+1>: two", "f<0+1,0>: base.0", "f<0,0+1>: base.1", "f<0,0>: none"], library("gen f<type,type>", "for f<A,?t>", "for f<?t,A>"))

    def test_none_and_two_together(self):
        given = library("gen f<type,type,type>", "for f<?t,?t,?s>", "for f<?s,?t,?t>", "  const v = 1", "inner gen g<type>", "for g<A>")
        self.check(["f<0,0,0>: base.0 base.1 none two"], library("gen f<type,type,type>", "for f<?t,?t,?s>", "for f<?s,?t,?t>"))
        self.check(["f<0+1,0+1,0+1>: two", "f<0+1,0+1,0>: base.0", "f<0+1,0,0+1>: none", "f<0+1,0,0>: base.1 none", "f<0,0+1,0+1>: base.1", "f<0,0+1,0>: none", "f<0,0,0+1>: base.0 none", "f<0,0,0>: base.0 base.1 none two"], given)

    def test_lists_and_numbers(self):
        self.check(["f<#..0>: base.1", "f<#0>: base.0"], library("gen f<num>", "for f<0>", "for f<#n>"))
        self.check(["f<#..0>: base.1", "f<#..1>: none", "f<#..2>: none", "f<#0>: none", "f<#1>: base.0", "f<#2>: none", "f<#3>: base.1"], library("gen f<num>", "for f<1>", "for f<3*#n+3>"))
        self.check(["f<0+1>: base.0", "f<1+2>: none"], library("gen f<types>", "for f<()>", "inner gen g<types>", "for g<(..?r)>", "for g<(?x,..?r)>"))

    def test_piles(self):
        self.check(["run<;()>: none", "run<;->: none", "run<;0>: base.0"], library("gen run<pile>", "for run<(A,..?r)>"))
        self.check(["run<#..0;()>: base.0", "run<#..0;->: base.0", "run<#..0;0>: base.0", "run<#0;()>: base.0", "run<#0;->: base.0", "run<#0;0>: base.1"],
                   library("gen run<num,pile>", "for run<#n,(..?r)>", "for run<0,(A,..?r)>"))

    def test_marks_of_several_texts(self):
        given = library("gen f<type,type>", "for f<?s,?t>", more="for f<?t,?t>", also="for f<A,?t>", views=[("base",), ("more",), ("also", "more")])
        self.check(["f<0+1,0+1>: base.0", "f<0+1,0>: base.0", "f<0,0+1>: base.0", "f<0,0>: base.0"], given)
        self.check(["f<0+1,0+1>: more.0", "f<0+1,0>: base.0", "f<0,0+1>: base.0", "f<0,0>: base.0 more.0"], given, 1)
        self.check(["f<0+1,0+1>: two", "f<0+1,0>: also.0", "f<0,0+1>: base.0", "f<0,0>: base.0 more.0"], given, 2)

    def test_met_sorts_alone(self):
        given = library("gen f<type>", "inner gen g<type>", "for f<?t>", "  const v = g<A>.v", "for g<?t>", "  const v = 1")
        self.check(["f<>: base.0", "g<>: base.1"], given)
        given = library("gen f<type>", "inner gen g<type>", "for f<?t>", "  const v = g<A>.v", "for g<?t>", "  const v = 1", "for g<A>", "  const v = 2")
        self.check(["f<>: base.0", "g<0+1>: base.2"], given)

    def test_by_chance(self):
        chance = random.Random(213)
        for _ in range(30):
            given = random_library(chance, maker=RichMaker)
            for k in range(len(given.views)):
                found = draw(given, k)
                self.assertEqual((len(sorts(given, k)), sorted(set(found))), (len(found), found))
                ends = sorted(sum((bool(row[1]) + bool(row[2]) + len(row[0]) for row in [outcomes(given, k, sort)]), 0) for sort in sorts(given, k))
                self.assertEqual(ends, sorted(len(row.split(": ")[1].split()) for row in found))

    def test_errors(self):
        wrong = library("gen f<type>", "for f<B<?t>>", "  fun go(x) = f<B<B<?t>>>.go(x)")
        for value in [*ODD_VALUES, 1, -1]:
            error = raised(draw, wrong, value)
            self.assertEqual("InvalidView", type(error).__name__)
            self.assertIs(value, error.given)
        self.assertEqual(("NotApart", "f", "part"), told(raised(draw, wrong, 0)))
        with NarrowStack():
            self.assertEqual([], draw(library(), 0))


if __name__ == "__main__":
    unittest.main()
