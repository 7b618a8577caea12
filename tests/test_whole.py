"""Points [11] and [12] over the whole interface: arguments, results, and equal answers by turns."""

import importlib
import inspect
import unittest

from mostspecial import errors
from mostspecial.apart import apart
from mostspecial.books import book, counts, unlike
from mostspecial.core import made
from mostspecial.covers import cover, is_cover, outside
from mostspecial.drawn import draw
from mostspecial.early import constants
from mostspecial.edges import counters, post, solves, states
from mostspecial.errors import ChoiceError
from mostspecial.instances import asked, instances, roots
from mostspecial.library import Library, looked
from mostspecial.link import is_linked, link, run
from mostspecial.matches import alike, filled, matching, more_special, renamed
from mostspecial.meets import meet, meet_all, meet_forms
from mostspecial.papers import is_paper
from mostspecial.plain import plain
from mostspecial.programs import Program, faults, prints_in, view
from mostspecial.rings import endless, no_value
from mostspecial.rows import bad, chooser, dead, least_names, needed
from mostspecial.sights import looks, measure, sight, sights, single, term_of
from mostspecial.steps import asks, is_sort, outcomes, sort_of
from mostspecial.table import met, road, sorts
from mostspecial.tables import Table, is_why_one
from mostspecial.terms import Names, is_closed, is_pattern, is_term, is_type_name, is_use, is_variable, is_word, variables
from mostspecial.termtexts import read_term, read_terms, write_term, write_terms
from mostspecial.texts import read_unit, write_unit
from mostspecial.verdict import verdict
from mostspecial.well import some_well
from tests.tools import ODD_VALUES, NarrowStack, deep, raised, type_of

SIGNATURES = {
    "terms": {"is_word": "value", "is_type_name": "value", "is_variable": "value", "Names": "names", "is_term": "value kind names", "is_closed": "term", "is_pattern": "value kinds names", "is_use": "value kinds names",
              "variables": "terms"},
    "termtexts": {"write_term": "term", "write_terms": "terms", "read_term": "text kind names", "read_terms": "text kinds names"},
    "matches": {"matching": "pattern use", "filled": "terms binding", "more_special": "p q", "alike": "p q", "renamed": "p"},
    "meets": {"meet": "p q", "meet_all": "patterns", "meet_forms": "one other"},
    "covers": {"outside": "pattern patterns", "cover": "pattern patterns", "is_cover": "pattern patterns value"},
    "tables": {"Table": "names kinds patterns", "is_why_one": "table value"}, "texts": {"read_unit": "text", "write_unit": "unit"},
    "programs": {"Program": "headers units", "faults": "program", "view": "program word", "prints_in": "program word"}, "plain": {"plain": "program most"},
    "early": {"constants": "program word generic terms most"},
    "instances": {"asked": "program word generic terms", "roots": "program word", "instances": "program word roots most"}, "library": {"Library": "headers views", "looked": "library generic"},
    "apart": {"apart": "library"},
    "sights": {"looks": "library", "measure": "library", "sight": "library kind term", "sights": "library k kind", "term_of": "library k kind sight", "single": "library kind sight"},
    "steps": {"sort_of": "library k generic terms", "is_sort": "library k value", "outcomes": "library k sort", "asks": "library k sort"},
    "table": {"sorts": "library k", "met": "library k generic terms", "road": "library k generic terms"},
    "rows": {"bad": "library k", "least_names": "library k", "dead": "library k", "chooser": "library k mark", "needed": "library k"}, "rings": {"endless": "library k", "no_value": "library k"},
    "well": {"some_well": "library k"}, "books": {"counts": "program generic terms", "book": "program word roots most", "unlike": "library"}, "papers": {"is_paper": "library value"},
    "verdict": {"verdict": "library"}, "core": {"made": "program word most"}, "link": {"link": "parts", "is_linked": "value", "run": "linked most"},
    "edges": {"post": "pairs", "solves": "pairs row", "states": "rows most", "counters": "rows rule"}, "drawn": {"draw": "library k"},
}
METHODS = {"Names": {"count_of": "name"}, "Table": {"takers": "use", "choice": "use", "two_choices": "", "why_one": "", "further": "", "never": "", "__len__": ""}}
A = type_of("A")
BASE = "name A 0\nname B 1\nname P 2\ngen f<type,type>\ninner gen run<pile,num>\ngen g<num>\nfor f<B<?t>,?c>\n  const v = 1+f<?t,?c>.v\n  fun go(x) = run<(?t,B<A>),3>.go(x)\nfor f<?t,?c>\n  const v = 0\n  fun go(x) = x+v"
RUN = "\nfor run<(B<?x>,..?r),#n>\n  fun go(x) = run<(?x,..?r),#n>.go(x+1)\nfor run<(?x,..?r),#n>\n  fun go(x) = run<(..?r),#n>.go(x)\nfor run<(),#n>\n  fun go(x) = x*#n\nfor g<#n>\n  const v = #n"
WELL = Library({"base": BASE + RUN, "more": "see base\nname C 0\nfor f<C,?c>\n  const v = 5\n  fun go(x) = 2*x"}, [("base",), ("more",)])
CHANGED = [
    WELL,
    Library({"base": BASE + RUN.replace("(?x,..?r),#n>.go(x+1)", "(B<A>,B<A>,A,..?r),#n>.go(x+1)"), "more": "see base\nname C 0"}, [("base",), ("more",)]),
    Library({"base": BASE + RUN + "\nfor f<A,?c>\n  const v = f<A,B<?c>>.v", "more": "see base\nname C 0"}, [("base",), ("more",)]),
    Library({"base": BASE + RUN + "\nfor g<2*#n+1>\n  const v = g<#n>.w", "more": "see base\nname C 0\nfor g<2>\n  const v = 7"}, [("base",), ("more",)]),
    Library({"base": BASE + RUN, "more": "see base\nname C 0\nfor f<A,?c>\n  const v = 5\n  fun go(x) = 2*x"}, [("base",), ("more",)]),
]


def outcome(call, *args):
    """What a call returns, or the class and the attributes of what it raises."""
    try:
        return call(*args)
    except ChoiceError as error:
        return type(error), vars(error)


def about_library(given):
    """The calls that ask about a library, with their arguments."""
    terms = (type_of("B", type_of("B", A)), A)
    pile = (("list", (type_of("B", A), A), None), 3)
    calls = [(apart, given), (looks, given), (measure, given), (unlike, given), (verdict, given), (looked, given, "f"), (looked, given, "none")]
    for k in range(2):
        calls += [(function, given, k) for function in (sorts, bad, least_names, dead, needed, endless, no_value, some_well, draw)]
        calls += [(sights, given, k, kind) for kind in ("type", "num", "types")]
        calls += [(function, given, k, generic, use) for function in (sort_of, met, road) for generic, use in [("f", terms), ("run", pile), ("g", (3,)), ("g", (2,)), ("g", ())]]
        calls += [(chooser, given, k, mark) for mark in [("base", 0), ("base", 3), ("base", 9), ("more", 0), None]]
        sort = sort_of(given, k, "f", terms)
        calls += [(function, given, k, sort) for function in (is_sort, outcomes, asks)]
        calls += [(term_of, given, k, "type", sort[1][0]), (single, given, "type", sort[1][0]), (single, given, "num", ("small", 0)), (sight, given, "type", A), (sight, given, "type", None)]
    paper = verdict(WELL)[1]
    return [*calls, (is_paper, given, paper), (is_paper, given, ())]


def program_of(given, main):
    return Program(given.headers, {"main": main, "other": "see more\nprint f<B<C>,A>.go(2)"})


def about_program(program):
    """The calls that ask about a program, with their arguments."""
    use = ("f", (type_of("B", A), A))
    calls = [(faults, program), (plain, program, 200), (plain, program, 3), (counts, program, *use), (counts, program, "run", (("list", (A,), None), 7))]
    for word in ("main", "other", "base", "none"):
        calls += [(view, program, word), (prints_in, program, word), (roots, program, word), (asked, program, word, *use), (constants, program, word, *use, 40), (instances, program, word, [use], 40),
                  (book, program, word, [use], 40), (made, program, word, 40), (made, program, word, 2)]
    parts = [outcome(made, program, word, 40) for word in ("main", "other")]
    if all(isinstance(part[0], dict) for part in parts):
        linked = outcome(link, parts)
        calls += [(link, parts), (is_linked, linked), (run, linked, 100), (run, linked, 1)]
    return calls


def about_others():
    """All other calls of the interface, with arguments."""
    names = Names([("A", 0), ("B", 1)])
    kinds = ("type", "num", "types")
    pattern, other = [read_terms(text, kinds, names) for text in ["B<?t>,2*#n,(?t,..?r)", "?x,#m+3,(A,..?s)"]]
    use = read_terms("B<A>,4,(A)", kinds, names)
    table = Table(names, kinds, [pattern, other])
    unit = read_unit("see base\nprint 1+f<A>.v")
    rows, pairs = [("up", 0, 1), ("down", 0, 2, 1)], [("A", "AB"), ("BB", "B")]
    numbers = [(("form", 1, "n", 0),), (("form", 2, "n", 0),)]
    return [(is_word, "a"), (is_type_name, "A"), (is_variable, "a"), (names.count_of, "B"), (is_term, A, "type", names), (is_closed, A), (is_pattern, pattern, kinds, names), (is_use, use, list(kinds), names), (variables, pattern),
            (write_term, A), (write_terms, pattern), (read_term, "B<?t>", "type", names), (read_terms, "A,1", ["type", "num"], names), (matching, pattern, use), (filled, pattern, {"t": A, "n": 1, "r": ("list", (), None)}),
            (filled, pattern, {}), (more_special, pattern, other), (alike, pattern, pattern), (renamed, pattern), (meet, pattern, other), (meet_all, [pattern, other]), (meet_forms, (2, 1), (3, 0)), (outside, numbers[0], numbers[1:]),
            (cover, numbers[1], [numbers[0]]), (cover, numbers[0], numbers[1:]), (is_cover, numbers[1], [numbers[0]], ("in", 0)), (table.takers, use), (table.choice, use), (table.two_choices,), (table.why_one,), (table.further,),
            (table.never,), (is_why_one, table, ()), (read_unit, "print 1"), (write_unit, unit), (read_unit, "x"), (post, pairs), (solves, pairs, [0, 1]), (states, rows, 9), (counters, rows, "twice"), (counters, rows, "none")]


def spoil(value):
    """Take all out of what a call returned, where this can be done."""
    if isinstance(value, (list, dict)):
        for inner in value.values() if isinstance(value, dict) else value:
            spoil(inner)
        value.clear()
    elif isinstance(value, tuple):
        for inner in value:
            spoil(inner)


class TestInterface(unittest.TestCase):
    def test_names_of_arguments(self):
        for file, functions in SIGNATURES.items():
            module = importlib.import_module("mostspecial." + file)
            for name, words in functions.items():
                self.check(getattr(module, name), words.split())
                for method, more in METHODS.get(name, {}).items():
                    self.assertIn(method, vars(getattr(module, name)))
                    self.check(getattr(module, name).__dict__[method], ["self", *more.split()])
                self.assertEqual("mostspecial." + file, getattr(module, name).__module__)

    def check(self, function, words):
        parameters = inspect.signature(function).parameters.values()
        self.assertEqual(words, [parameter.name for parameter in parameters], function)
        self.assertTrue(all(parameter.kind == parameter.POSITIONAL_OR_KEYWORD and parameter.default is parameter.empty for parameter in parameters), function)

    def test_by_position_and_by_name(self):
        for call, *args in [row for given in CHANGED[:2] for row in about_library(given)] + about_others() + about_program(program_of(WELL, "see base\nprint f<B<A>,A>.go(2)")):
            names = list(inspect.signature(call).parameters)
            named = dict(zip(names, args))
            self.assertEqual(len(names), len(args), call)
            expected = outcome(call, *args)
            self.assertEqual(expected, outcome(lambda: call(**named)), call)
            half = len(args) // 2
            self.assertEqual(expected, outcome(lambda: call(*args[:half], **dict(list(named.items())[half:][::-1]))), call)

    def test_all_functions_are_called_here(self):
        calls = about_library(WELL) + about_others() + about_program(program_of(WELL, "see base\nprint 1"))
        called = {call.__name__ for call, *_ in calls}
        for file, functions in SIGNATURES.items():
            for name in functions:
                if name[0].islower():
                    self.assertIn(name, called)
        self.assertLess({"takers", "choice", "two_choices", "why_one", "further", "never", "count_of"}, called)


class TestByTurns(unittest.TestCase):
    def all_calls(self):
        calls = [row for given in CHANGED for row in about_library(given)]
        for given in CHANGED:
            calls += about_program(program_of(given, "see base\nprint f<B<B<A>>,A>.v+f<A,A>.go(1)\nprint g<7>.v"))
            calls += about_program(program_of(given, "see more\nfor g<7>\n  const v = 9\nprint f<B<C>,A>.go(1)+g<7>.v"))
        return calls + about_others()

    def test_equal_answers(self):
        calls = self.all_calls()
        first = [repr(outcome(*row)) for row in calls]
        # Once more in another order, of the same objects and of such that are made anew.
        for row, told in list(zip(calls, first))[::-1]:
            self.assertEqual(told, repr(outcome(*row)), row)
        again = []
        for given in CHANGED:
            new = Library(dict(list(given.headers.items())[::-1]), list(given.views))
            again += about_library(new)[::-1]
        expected = [told for at in range(len(CHANGED)) for told in first[at * len(again) // len(CHANGED):(at + 1) * len(again) // len(CHANGED)][::-1]]
        self.assertEqual(expected, [repr(outcome(*row)) for row in again])

    def test_what_is_passed_stays_and_what_is_returned_is_new(self):
        for row in self.all_calls():
            call, *args = row
            before = repr(args)
            expected = repr(outcome(*row))
            self.assertEqual(before, repr(args), call)
            found = outcome(*row)
            if not (isinstance(found, tuple) and isinstance(found[0], type)):
                spoil(found)
            else:
                given = [value for value in found[1].values() if not any(value is arg for arg in args)]
                spoil(given)
            self.assertEqual(expected, repr(outcome(*row)), call)

    def test_what_is_passed_is_kept_nowhere(self):
        headers, views = {"base": BASE + RUN, "more": "see base\nname C 0"}, [("base",), ("more",)]
        given = Library(headers, views)
        first = repr([outcome(*row) for row in about_library(given)])
        headers["base"] = "name X 0"
        headers.clear()
        views.append(("none",))
        views[0] = ()
        given.headers.clear()
        new = Library({"base": BASE + RUN, "more": "see base\nname C 0"}, [("base",), ("more",)])
        self.assertEqual(first.replace(repr(WELL), ""), repr([outcome(*row) for row in about_library(given)]))
        self.assertEqual(first, repr([outcome(*row) for row in about_library(new)]))

    def test_lists_and_tuples(self):
        use = ("f", (type_of("B", A), A))
        program = program_of(WELL, "see base\nprint f<B<A>,A>.go(2)")
        parts = [made(program, word, 40) for word in ("main", "other")]
        rows, pairs = [("up", 0, 1), ("down", 0, 2, 1)], [("A", "AB"), ("BB", "B")]
        for call, args in [(instances, (program, "main", [use], 9)), (book, (program, "main", [use], 9)), (link, (parts,)), (post, (pairs,)), (solves, (pairs, [0, 1])), (states, (rows, 9)), (counters, (rows, "part"))]:
            other = [tuple(arg) if isinstance(arg, list) else arg for arg in args]
            self.assertEqual(call(*args), call(*other))
            for at, arg in enumerate(args):
                if isinstance(arg, list) and call != link:
                    for wrong in [{}, "ab", dict(enumerate(arg)), iter(arg), None]:
                        with self.assertRaises(ChoiceError):
                            call(*args[:at], wrong, *args[at + 1:])
        self.assertEqual(repr(Library({}, [()]).views), repr(Library({}, ((),)).views))

    def test_true_and_false_are_no_integers(self):
        program = program_of(WELL, "see base\nprint f<B<A>,A>.go(2)")
        for value in (True, False):
            for function in (sorts, bad, least_names, dead, needed, endless, no_value, some_well, draw):
                self.assertEqual((errors.InvalidView, {"given": value}), outcome(function, WELL, value))
            for call, args in [(plain, (program,)), (made, (program, "main")), (run, (({}, []),)), (states, ([],)), (instances, (program, "main", [])), (book, (program, "main", [])),
                               (constants, (program, "main", "f", (A, A)))]:
                self.assertEqual((errors.InvalidMost, {"given": value}), outcome(call, *args, value))
            self.assertFalse(is_linked(({}, [("num", value)])))
            self.assertFalse(is_paper(Library({"base": "gen f<type>\nfor f<?t>"}, [("base",)]), (((("f", (), None), (), ((0, value),)),),)))
            self.assertEqual((errors.InvalidRow, {"given": [value]}), outcome(solves, [("A", "A")] * 2, [value]))
            self.assertEqual((errors.InvalidUse, {"given": ("g", (value,))}), outcome(counts, program, "g", (value,)))

    def test_any_values(self):
        nest = ()
        for _ in range(29):
            nest = (nest, nest[:1])
        table = Table(Names([]), ["num"], [])
        values = [*ODD_VALUES, WELL, program_of(WELL, "see base"), table, errors.InvalidWord(3), deep(299), (deep(299),), [deep(299)], {"a": deep(299)}, nest, verdict(WELL), verdict(WELL)[1], draw(WELL, 0), 10 ** 400, "x" * 20000,
                  ("list", (A,) * 5000, None), made(program_of(WELL, "see base\nprint f<A,A>.v"), "main", 9)]
        names = Names([("A", 0)])
        with NarrowStack(200):
            for value in values:
                for call in [is_word, is_type_name, is_variable, is_linked, lambda value: is_term(value, "type", names), lambda value: is_pattern(value, ["type"], names), lambda value: is_use(value, ["types"], names),
                             lambda value: is_cover((), [], value), lambda value: is_why_one(table, value), lambda value: is_sort(WELL, 0, value), lambda value: is_paper(WELL, value)]:
                    self.assertIsInstance(call(value), bool)
        self.assertTrue(is_paper(WELL, verdict(WELL)[1]))

    def test_errors_keep_the_very_argument(self):
        program = program_of(WELL, "see base\nprint 1")
        for value in [[], {}, "none", ("a",), [[]], 2 ** 70, -1]:
            for call in [lambda: sorts(WELL, value), lambda: draw(WELL, value), lambda: endless(WELL, value), lambda: view(program, value), lambda: made(program, value, 3)]:
                self.assertIs(value, raised(call).given)
        linked = ({}, [None])
        self.assertIs(linked, raised(run, linked, 5).given)


if __name__ == "__main__":
    unittest.main()
