"""Point [122]: libraries that take apart, rule by rule, and the errors that all later functions share."""

import unittest

from mostspecial.apart import apart
from mostspecial.errors import InvalidView, NotApart
from mostspecial.library import Library
from mostspecial.rows import bad, chooser, dead, least_names, needed
from mostspecial.sights import looks, measure, sight, sights, single, term_of
from mostspecial.steps import asks, is_sort, outcomes, sort_of
from mostspecial.table import met, road, sorts
from tests.tools import ODD_VALUES, raised

NAMES = "name A 0\nname B 1\nname P 2"
# f and g are looked at wherever that may be; k is not; p has a pile, and l a list.
GENERICS = ("gen f<type,type>\ngen g<num>\ngen k<type,num,types>\ngen p<type,pile>\ngen l<types>\nfor f<A,A>\nfor g<0>\nfor k<?t,#n,(..?r)>\n"
            "for p<A,()>\nfor l<()>")


def found(*rows, **others):
    """What `apart` tells of a library with some definitions, and with further headers."""
    headers = {"base": "\n".join([NAMES, GENERICS, *rows])}
    headers.update({word: "see base\n" + others[word] for word in others})
    return apart(library=Library(headers, [("base",)]))


class TestRules(unittest.TestCase):
    def good(self, *rows, **others):
        self.assertIsNone(found(*rows, **others), rows)

    def wrong(self, expected, *rows, **others):
        self.assertEqual(expected, found(*rows, **others), rows)

    def test_part_of_types(self):
        for ask in ["?t,A", "B<?t>,A", "B<B<?t>>,A", "A,?s", "?t,?s", "B<A>,P<A,A>", "B<B<B<?s>>>,A"]:
            if "B<B<B" in ask:
                self.wrong(("f", "part"), "for f<B<B<?t>>,?s>", f"  const v = f<{ask}>.v")
            else:
                self.good("for f<B<B<?t>>,?s>", f"  const v = f<{ask}>.v")
        for ask in ["P<?s,?t>,A", "B<?s>,A", "P<A,?t>,A", "P<?t,?s>,A"]:
            rows = ["for f<P<?t,?s>,B<A>>", f"  fun go() = f<{ask}>.v"]
            if ask == "P<?t,?s>,A":
                self.good(*rows)
            else:
                self.wrong(("f", "part"), *rows)

    def test_part_of_lists(self):
        for ask in ["(?x,?y,..?r)", "(?y,..?r)", "(..?r)", "()", "(A,B<A>)"]:
            self.good("for l<(?x,?y,..?r)>", f"  const v = l<{ask}>.v")
        for ask in ["(?x,..?r)", "(?x)", "(?y)", "(?x,?y)", "(A,..?r)", "(?y,?x,..?r)", "(A,?x,?y,..?r)"]:
            self.wrong(("l", "part"), "for l<(?x,?y,..?r)>", f"  const v = l<{ask}>.v")
        self.good("for l<(?x,A)>", "  const v = l<(A)>.v+l<()>.v+l<(?x,A)>.v+f<?x,A>.v")
        self.good("for l<(B<?x>,..?r)>", "  const v = f<B<?x>,A>.v+f<?x,A>.v")

    def test_part_of_numbers(self):
        for ask in ["#n", "#n+1", "#n+3", "5"]:
            self.good("for g<#n+3>", f"  const v = g<{ask}>.v")
        self.wrong(("g", "part"), "for g<#n+3>", "  const v = g<#n+4>.v")
        self.wrong(("g", "part"), "for g<#n+3>", "  const v = g<2*#n>.v")
        for ask in ["#n", "2*#n+3"]:
            self.good("for g<2*#n+3>", f"  const v = g<{ask}>.v")
        for ask in ["#n+3", "2*#n", "2*#n+1", "#n+1", "2*#n+2"]:
            self.wrong(("g", "part"), "for g<2*#n+3>", f"  const v = g<{ask}>.v")

    def test_part_of_piles_and_what_is_no_part(self):
        self.good("for p<?t,(B<?x>,..?r)>", "  const v = p<?x,(?t,B<A>,..?r)>.v+p<B<?x>,(..?r)>.v+f<?x,?t>.v")
        self.wrong(("p", "part"), "for p<?t,(B<?x>,..?r)>", "  const v = p<?t,(B<B<?x>>,..?r)>.v")
        self.good("for p<?t,(B<?x>,..?r)>", "  const v = k<P<B<?x>,A>,3,()>.v")
        # What is carried is no part, though it may be handed on to what is carried in any way.
        self.good("for k<A,#n,(..?r)>", "  const v = k<A,#n+5,(B<A>,A,..?r)>.v")

    def test_once(self):
        self.wrong(("f", "once"), "for f<P<?t,?s>,A>", "  const v = f<?t,?t>.v")
        self.wrong(("f", "once"), "for f<P<?t,?s>,A>", "  const v = f<?t,P<?t,?s>>.v")
        self.good("for f<P<?t,?s>,A>", "  const v = f<?t,?s>.v+f<?t,A>.v+f<P<?t,?s>,A>.v")
        self.wrong(("p", "once"), "for p<?t,(?x,..?r)>", "  const v = p<?x,(?x,..?r)>.v")
        self.wrong(("p", "once"), "for p<?t,(?x,..?r)>", "  const v = p<?t,(?x,?x,..?r)>.v")
        both = "gen both<types,pile>\nfor both<(),()>"
        self.wrong(("both", "once"), both, "for both<(?x,..?r),(..?p)>", "  const v = both<(..?r),(..?r)>.v")
        self.good(both, "for both<(?x,..?r),(..?p)>", "  const v = both<(),(..?r)>.v+both<(..?r),(..?p)>.v")
        self.good("for f<B<?t>,?s>", "  const v = k<P<?t,?t>,0,(?t)>.v")

    def test_twice(self):
        self.good("for f<?t,?t>", "  const v = k<?t,0,()>.v")
        self.wrong(("f", "twice"), "for f<?t,?t>", "  const v = f<A,?t>.v")
        self.wrong(("f", "twice"), "for f<P<?t,?t>,?s>", "  const v = f<?s,?t>.v")
        self.good("for f<P<?t,?t>,?s>", "  const v = f<?s,A>.v")
        self.wrong(("two", "twice"), "gen two<num,num>\nfor two<#n,#n>")
        self.wrong(("two", "twice"), "gen two<num,num>\nfor two<#n,2*#n>")
        self.wrong(("two", "twice"), "gen two<types,types>\nfor two<(..?r),(A,..?r)>")
        self.good("gen two<num,types>\nfor two<#n,(?x,?x)>")

    def test_apart(self):
        same = "for f<?t,?t>"
        self.wrong(("f", "apart"), same, "for f<?s,?u>", "  const v = f<?s,?u>.v")
        self.good(same, "for f<?s,?u>", "  const v = f<?s,A>.v+f<?u,A>.v")
        self.wrong(("f", "apart"), same, "for f<B<?s>,?u>", "  const v = f<?u,A>.v")
        self.wrong(("f", "apart"), same, "for f<B<?s>,?u>", "  const v = f<B<?s>,A>.v")
        self.good(same, "for f<B<?s>,?u>", "  const v = f<?s,A>.v")
        self.wrong(("f", "apart"), same, "for f<B<?s>,?u>", "  const v = f<?s,?u>.v")
        # Without a use that both take, nothing is asked.
        self.good(same, "for f<B<?s>,P<A,?u>>", "  const v = f<?s,?u>.v")
        self.good("for l<(?x,?x,..?r)>", "for l<(?y,..?r)>", "  const v = f<?y,A>.v+l<()>.v")
        self.wrong(("l", "apart"), "for l<(?x,?x,..?r)>", "for l<(?y,..?r)>", "  const v = l<(..?r)>.v")
        self.good("for l<(?x,?x,..?r)>", "for l<(?y,?z,..?r)>", "  const v = l<(..?r)>.v")

    def test_apart_on_piles(self):
        rows = ["gen own<type,pile>", "for own<?t,(?t,..?r)>"]
        self.wrong(("own", "apart"), *rows, "for own<?t,(..?r)>", "  const v = own<?t,(..?r)>.v")
        self.good(*rows, "for own<?t,(..?r)>", "  const v = own<A,(..?r)>.v+own<?t,()>.v+own<?t,(A)>.v")
        rows = ["gen own<type,pile>", "for own<?t,(B<?t>,..?r)>"]
        self.wrong(("own", "apart"), *rows, "for own<?t,(..?r)>", "  const v = own<A,(..?r)>.v")
        self.wrong(("own", "apart"), *rows, "for own<?t,(?x,..?r)>", "  const v = own<A,(?x,..?r)>.v")
        self.good(*rows, "for own<?t,(?x,..?r)>", "  const v = own<A,(..?r)>.v+own<?t,(..?r)>.v")
        # A list that becomes the rest of a pile counts as one term, so that its items are not alone in it.
        rows = ["gen own<type,types>", "for own<?t,(?t,..?r)>", "for own<?t,(..?r)>"]
        self.wrong(("own", "apart"), *rows, "  const v = p<A,(..?r)>.v")
        self.wrong(("own", "apart"), *rows, "  const v = l<(..?r)>.v")
        self.good(*rows, "  const v = p<?t,()>.v")
        self.good("gen own<type,types>", "for own<?t,(?t,..?r)>", "for own<?t,(?x,..?r)>", "  const v = p<?x,(..?r)>.v")

        # What is handed on beside such a list counts, too.
        rows = ["gen own<type,type,types>", "for own<?t,?t,(..?r)>", "for own<?s,?u,(..?r)>"]
        self.wrong(("own", "apart"), *rows, "  const v = p<?s,(?u,..?r)>.v")
        self.good(*rows, "  const v = p<?s,(..?r)>.v+p<A,(?u,..?r)>.v")
        self.wrong(("own", "apart"), *rows, "  const v = p<?s,(?u)>.v")

    def test_apart_with_definitions_that_no_view_has_together(self):
        rows = ["for f<?s,?u>", "  const v = f<?s,?u>.v"]
        self.wrong(("f", "apart"), *rows, more="for f<?t,?t>")
        self.wrong(("f", "apart"), one="\n".join(rows), two="for f<?t,?t>")
        self.good(*rows, more="for f<B<?t>,P<?x,?y>>")

    def test_pile_of_generics_and_patterns(self):
        self.wrong(("two", "pile"), "gen two<pile,pile>")
        self.wrong(("two", "pile"), "gen two<pile,type,pile>\nfor two<(),A,()>")
        for pile in ["()", "(..?r)", "(?x,..?r)", "(B<A>,..?r)", "(P<?x,?t>,..?r)"]:
            self.good(f"for p<?t,{pile}>")
        for pile in ["(?x)", "(A)", "(?x,?y,..?r)", "(A,A)", "(?x,?y,?z,..?r)"]:
            self.wrong(("p", "pile"), f"for p<?t,{pile}>")
        self.assertIn(found("gen both<types,pile>\nfor both<(A,..?r),(..?r)>"), [("both", "pile"), ("both", "twice")])

    def test_pile_of_inner_uses(self):
        for pile in ["()", "(A,A,A)", "(?x,A,A)", "(A,A,?x,..?r)", "(..?r)"]:
            self.good("for p<?t,(?x,..?r)>", f"  const v = p<A,{pile}>.v")
        for pile in ["(A,A,A,A)", "(A,A,?x,A,..?r)"]:
            self.wrong(("p", "pile"), "for p<?t,(?x,..?r)>", f"  const v = p<A,{pile}>.v")
        self.good("for l<(?x,..?r)>", "  const v = p<?x,(A,A,A,..?r)>.v")
        self.wrong(("l", "pile"), "for l<(?x,..?r)>", "  const v = p<?x,(A,A,A,A,..?r)>.v")

    def test_pile_rests_stand_nowhere_else(self):
        self.wrong(("p", "pile"), "for p<?t,(?x,..?r)>", "  const v = k<A,0,(..?r)>.v")
        self.wrong(("p", "pile"), "for p<?t,(?x,..?r)>", "  const v = k<A,0,(A,..?r)>.v")
        self.wrong(("p", "pile"), "for p<?t,(?x,..?r)>", "  const v = l<(..?r)>.v")
        self.wrong(("both", "pile"), "gen both<types,pile>", "for both<(..?s),(..?r)>", "  const v = both<(..?r),(..?r)>.v")
        self.good("for p<?t,(?x,..?r)>", "  const v = p<A,(..?r)>.v+p<A,(A,..?r)>.v")

    def test_pile_three_definitions_lay_more(self):
        rows = ["gen q<type,pile>"]
        for k, name in enumerate(["A", "B<?x>", "P<?x,?y>"]):
            rows.extend([f"for q<?t,({name},..?r)>", "  const v = q<?t,(A,A,..?r)>.v+q<?t,(A,A,A,..?r)>.v"])
        self.good(*rows)
        self.good(*rows, "for p<B<A>,(?x,..?r)>", "  const v = q<A,(?x,..?r)>.v+q<A,(A,A)>.v")
        self.wrong(("q", "pile"), *rows, "for q<?t,(P<A,?x>,..?r)>", "  const v = q<?t,(A,A,..?r)>.v")
        self.assertIn(found(*rows, "for p<B<A>,(..?r)>", "  const v = q<A,(A,..?r)>.v"), [("q", "pile"), ("p", "pile")])
        self.good(*rows, "for l<(?x,..?r)>", "  const v = q<A,(?x,A,A,..?r)>.v")
        self.assertIn(found(*rows, more="for p<B<A>,(..?r)>\n  const v = q<A,(A,..?r)>.v"), [("q", "pile"), ("p", "pile")])

    def test_carried(self):
        for ask in ["#n+9", "#n", "7", "100"]:
            self.good("for k<A,#n,(..?r)>", f"  const v = k<A,{ask},(..?r)>.v")
        self.wrong(("k", "carried"), "for k<A,#n,(..?r)>", "  const v = k<A,2*#n,(..?r)>.v")
        self.wrong(("g", "carried"), "for g<2*#n+1>", "  const v = k<A,3*#n+1,()>.v")
        self.good("gen c<type,types>", "for c<?t,(..?r)>", "  const v = c<B<?t>,(A,..?r)>.v")
        self.wrong(("c", "carried"), "gen c<type,types>", "for c<?t,(..?r)>", "  const v = c<P<?t,?t>,()>.v")
        self.wrong(("c", "carried"), "gen c<type,types>", "for c<?t,(..?r)>", "  const v = c<?t,(?t)>.v")
        self.good("gen c<type,types>", "for c<?t,(..?r)>", "  const v = c<?t,()>.v+c<A,(?t)>.v")
        # A variable at a place that is looked at may go to carried places in any number.
        self.good("for g<#n+1>", "  const v = k<A,#n,()>.v", "gen c<num,num,type>", "for c<#n,#m,?t>", "for f<B<?t>,?s>", "  const v = k<P<?t,?t>,0,(?s,?s)>.v")

    def test_const(self):
        rows = ["gen c<num>", "for c<#n+1>"]
        self.good(*rows, "  const v = 3-#n*w+c<#n>.v-g<0>.w", "  const w = 2", "  fun go(x) = if x<1 then go(x-1) else c<#n>.go(x)=1")
        for expression in ["1<2", "w=2", "if 1 then 2 else 3", "go(1)", "c<#n>.go(1)", "1+(2-(3*(#n<1)))", "c<#n>.v+go(1)"]:
            self.wrong(("c", "const"), *rows, f"  const v = {expression}", "  const w = 2", "  fun go(x) = x")

    def test_without_inner_uses_and_without_views(self):
        headers = {"base": "gen one<num,num>\nfor one<#n,#n>"}
        self.assertEqual(("one", "twice"), apart(Library(headers, [()])))
        self.assertEqual(("two", "pile"), apart(Library({"base": "gen two<pile,pile>"}, [()])))
        self.assertEqual(("one", "const"), apart(Library({"base": "gen one<>\nfor one<>\n  const v = 1<2"}, [()])))
        self.assertIsNone(apart(Library({"base": "gen one<>\nfor one<>\n  const v = 1"}, [()])))
        self.assertIsNone(apart(Library({}, [()])))

    def test_equal_answers(self):
        self.assertEqual(found("for f<?t,?s>", "  const v = f<?t,?t>.v"), found("for f<?t,?s>", "  const v = f<?t,?t>.v"))


def towers(many, names):
    """Closed types, so that as many different types stand in them: towers on A, with at most 12 signs each."""
    texts = []
    left = many - 1
    for name in names:
        if left > 0:
            high = min(11, left)
            texts.append(f"{name}<" * high + "A" + ">" * high)
            left -= high
    for name in names:
        for other in names:
            if name != other and left > 0:
                high = min(10, left)
                texts.append(f"{name}<" * high + f"{other}<A>" + ">" * high)
                left -= high
    assert left == 0
    return texts


class TestSize(unittest.TestCase):
    NAMES = "name A 0\n" + "\n".join(f"name {name} 1" for name in "BCDEFG") + "\nname T 3"
    TOWERS = "BCDEFG"

    def check(self, headers, views, expected):
        self.assertEqual(expected, apart(Library(headers, views)))

    def base(self, *rows):
        return {"base": "\n".join([self.NAMES, *rows])}

    def asking(self, many):
        """Members that ask f<..> for closed types, in which as many different types stand."""
        rows = []
        texts = towers(many, self.TOWERS)
        for k in range(0, len(texts), 3):
            rows.append("  const " + "abcdef"[k // 3] + " = " + "+".join(f"f<{text}>.a" for text in texts[k:k + 3]))
        return rows

    def test_views(self):
        self.check({}, [], (None, "size"))
        self.check({}, [()], None)
        self.check({}, [()] * 4, None)
        self.check({}, [()] * 5, (None, "size"))

    def test_names(self):
        self.check({"a": "\n".join(f"name {name} 0" for name in "ABCD"), "b": "\n".join(f"name {name} 3" for name in "EFGH")}, [()], None)
        self.check({"a": "\n".join(f"name {name} 0" for name in "ABCDI"), "b": "\n".join(f"name {name} 3" for name in "EFGH")}, [()], (None, "size"))

    def test_generics_of_a_view(self):
        first, other = "\n".join(f"gen {word}<>" for word in "abc"), "\n".join(f"inner gen {word}<>" for word in "def")
        self.check({"one": first, "two": other, "more": "see one\ngen g<>"}, [("one", "two"), ("more",)], None)
        self.check({"one": first, "two": other, "more": "see one\ngen g<>"}, [("one",), ("more", "two")], (None, "size"))

    def test_definitions(self):
        def rows(numbers):
            return "\n".join(f"for g<{','.join(map(str, divmod(k, 7)))}>" for k in numbers)
        gen = "gen g<num,num>\n"
        self.check({"one": gen + rows(range(8))}, [("one",)], None)
        self.check({"one": gen + rows(range(9))}, [()], ("g", "size"))
        self.check({"one": gen.strip(), "two": "see one\n" + rows(range(4)), "three": "see one\n" + rows(range(4, 8))}, [("two", "three")], None)
        more = {"one": gen.strip(), "two": "see one\n" + rows(range(4)), "three": "see one\n" + rows(range(4, 9))}
        self.check(more, [("two", "three")], ("g", "size"))
        self.check(more, [("two",), ("three",)], None)

    def test_all_definitions(self):
        headers = {"base": "gen g<num,num>\ngen h<>"}
        for k in range(6):
            headers[f"h{'abcdef'[k]}"] = "see base\n" + "\n".join(f"for g<{k},{j}>" for j in range(7))
        rows = ["\n".join(f"for k<{k},{j}>" for j in range(6)) for k in range(1)]
        headers = {word: headers[word] for word in headers if word != "hf"}
        headers["base"] += "\ngen k<num,num>\n" + rows[0]
        self.assertEqual(41, sum(text.count("for ") for text in headers.values()))
        headers["ha"] += "\nfor k<6,0>"
        for many, expected in [(6, None), (7, (None, "size"))]:
            self.check({**headers, "hb": headers["hb"] + "".join(f"\nfor k<5,{j}>" for j in range(many))}, [("base",)], expected)

    def test_members(self):
        rows = ["gen one<>", "for one<>", *[f"  const {word} = 1" for word in "abcdef"]]
        self.check(self.base(*rows), [("base",)], None)
        self.check(self.base(*rows, "  fun g() = 1"), [()], ("one", "size"))

    def test_depth(self):
        for pattern, expected in [("B<B<?t>>", None), ("B<B<A>>", None), ("B<B<B<?t>>>", ("f", "size")), ("B<B<B<A>>>", ("f", "size")), ("T<A,A,B<B<A>>>", ("f", "size"))]:
            self.check(self.base("gen f<type>", f"for f<{pattern}>"), [()], expected)
            self.check(self.base("gen f<types>", f"for f<(A,{pattern},..?r)>"), [()], expected)
            self.check(self.base("gen f<pile>", f"for f<({pattern},..?r)>"), [()], expected)
        self.check(self.base("gen f<type>", "for f<B<A>>", "  const v = f<B<B<B<B<A>>>>>.v"), [()], None)

    def test_numbers(self):
        for text, expected in [("6", None), ("7", ("g", "size")), ("#n+6", None), ("#n+7", ("g", "size")), ("4*#n", None), ("5*#n", ("g", "size")),
                               ("4*#n+6", None), ("4*#n+7", ("g", "size"))]:
            self.check(self.base("gen g<num>", f"for g<{text}>"), [()], expected)
        for number, expected in [(6, None), (7, ("g", "size"))]:
            self.check(self.base("gen g<num>", "for g<0>", f"  const v = g<{number}>.v"), [()], expected)
        self.check(self.base("gen g<num>", "for g<#n>", "  const v = g<1000>.v"), [()], None)

    def test_closed_terms(self):
        high = "B<" * 11 + "A" + ">" * 11
        self.check(self.base("gen f<type>", "for f<A>", f"  const v = f<{high}>.v"), [("base",)], None)
        self.check(self.base("gen f<type>", "for f<A>", f"  const v = f<B<{high}>>.v"), [("base",)], ("f", "size"))
        self.check(self.base("gen f<types>", "for f<(A)>", f"  const v = f<({'A,' * 11}A)>.v"), [("base",)], None)
        self.check(self.base("gen f<types>", "for f<(A)>", f"  const v = f<({'A,' * 12}A)>.v"), [("base",)], ("f", "size"))
        self.check(self.base("gen f<pile>", "for f<()>", f"  const v = f<({high},B<{high[2:-1]}>,A)>.v"), [("base",)], None)
        self.check(self.base("gen f<pile>", "for f<(..?r)>", f"  const v = f<(B<{high}>,..?r)>.v"), [("base",)], ("f", "size"))
        self.check(self.base("gen f<type,type>", "for f<A,?t>", f"  const v = f<A,B<{high}>>.v"), [("base",)], None)

    def test_sorts_of_a_generic(self):
        # 10 sights of numbers, with the bound 7 and the step 3, and 30 or 31 of types.
        for many, expected in [(29, None), (30, ("two", "size"))]:
            rows = ["gen f<type>", "for f<A>", *self.asking(many), "gen two<type,num>", "for two<A,6>", "for two<B<A>,3*#n>"]
            library = Library(self.base(*rows), [("base",)])
            self.assertEqual(expected, apart(library))
            if expected is None:
                self.assertEqual([30, 10], [len(sights(library, 0, kind)) for kind in ["type", "num"]])
        for many, expected in [(28, None), (29, ("two", "size"))]:
            rows = ["gen f<type>", "for f<A>", *self.asking(many), "gen two<pile,num>", "for two<(),6>", "for two<(A,..?r),3*#n>"]
            self.check(self.base(*rows), [("base",)], expected)
        # A view without the generic does not count.
        rows = ["gen f<type>", "for f<A>", *self.asking(30)]
        self.check({**self.base(*rows), "more": "see base\ngen two<type,num>\nfor two<A,6>\nfor two<B<A>,3*#n>"}, [("base",)], None)

    def test_sights_of_a_kind(self):
        self.check(self.base("gen f<type>", "for f<A>", *self.asking(99)), [("base",)], None)
        self.check(self.base("gen f<type>", "for f<A>", *self.asking(100)), [("base",)], (None, "size"))
        # No view has these, but all headers together do.
        for many, expected in [(99, None), (100, (None, "size"))]:
            rows = "\n".join(["for f<B<A>>", *self.asking(many)])
            self.check({**self.base("gen f<type>", "for f<A>"), "more": "see base\n" + rows}, [("base",)], expected)
            names = {"base": "name A 0\ngen f<type>\nfor f<A>", "more": "see base\n" + self.NAMES.replace("name A 0\n", "") + "\n" + rows}
            self.check(names, [("base",)], expected)

    def test_bindings(self):
        # 27 * 27 * 27 is 19683, and 28 * 28 * 28 is 21952.
        for many, expected in [(25, None), (26, ("f", "size"))]:
            rows = ["gen f<type>", "for f<A>", *self.asking(many), "for f<T<?a,?b,?c>>"]
            library = Library(self.base(*rows), [("base",)])
            self.assertEqual(expected, apart(library))
            # The view that has the pattern counts.
            rows = ["gen f<type>", "for f<A>", *self.asking(many)]
            headers = {**self.base(*rows), "more": "see base\nfor f<T<?a,?b,?c>>"}
            self.check(headers, [("base",)], None)
            self.check(headers, [("base",), ("more",)], expected)
        # Rests of piles do not count, nor do carried places.
        rows = ["gen f<type>", "for f<A>", *self.asking(25), "gen own<pile,type>", "for own<(T<?a,?b,?c>,..?r),?d>"]
        self.check(self.base(*rows), [("base",)], None)
        rows = ["gen f<type>", "for f<A>", *self.asking(26), "gen own<pile,type>", "for own<(T<?a,?b,?c>,..?r),?d>"]
        self.check(self.base(*rows), [("base",)], ("own", "size"))
        # 10 * 10 * 10 * 10 * 2 are just not too many.
        for many, expected in [(7, None), (8, ("own", "size"))]:
            rows = ["gen f<type>", "for f<A>", *self.asking(many), "gen own<type,num>", "for own<T<T<?a,?b,?c>,?d,A>,#n>", "for own<?t,0>"]
            library = Library(self.base(*rows), [("base",)])
            self.assertEqual(expected, apart(library))
            if expected is None:
                self.assertEqual([10, 2], [len(sights(library, 0, kind)) for kind in ["type", "num"]])


CALLS = [
    (looks, ()), (measure, ()), (sight, (None, None)), (single, (None, None)),
]
VIEW_CALLS = [
    (sights, (None,)), (term_of, (None, None)), (sort_of, (None, None)), (is_sort, (None,)), (outcomes, (None,)), (asks, (None,)),
    (sorts, ()), (met, (None, None)), (road, (None, None)), (bad, ()), (least_names, ()), (dead, ()), (chooser, (None,)), (needed, ()),
]


class TestSharedErrors(unittest.TestCase):
    def test_not_apart(self):
        library = Library({"base": NAMES + "\ngen f<num,num>\nfor f<#n,#n>"}, [("base",)])
        for function, args in CALLS:
            error = raised(function, library, *args)
            self.assertEqual((NotApart, "f", "twice"), (type(error), error.generic, error.what))
        for function, args in VIEW_CALLS:
            error = raised(function, library, 0, *args)
            self.assertEqual((NotApart, "f", "twice"), (type(error), error.generic, error.what))
        error = raised(looks, Library({}, []))
        self.assertEqual((NotApart, None, "size"), (type(error), error.generic, error.what))

    def test_invalid_view_comes_first(self):
        wrong = Library({"base": NAMES + "\ngen f<num,num>\nfor f<#n,#n>"}, [("base",), ()])
        good = Library({"base": NAMES}, [("base",), ()])
        for function, args in VIEW_CALLS:
            for library in [wrong, good]:
                for k in [2, -1, 10 ** 30, *ODD_VALUES]:
                    error = raised(function, library, k, *args)
                    self.assertIs(InvalidView, type(error), (function, k))
                    self.assertIs(k, error.given)
        self.assertIs(InvalidView, type(raised(sorts, Library({}, []), 0)))


if __name__ == "__main__":
    unittest.main()
