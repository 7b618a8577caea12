"""Point [121]: libraries, and the places that are looked at."""

import unittest

from mostspecial.errors import InvalidLibrary
from mostspecial.library import Library, looked
from tests.tools import ODD_VALUES, raised, told

BASE = "name A 0\nname B 1\ngen one<type,num>\nfor one<?t,#n>\n  const v = 1"
LEFT = "see base\nfor one<A,?n>".replace("?n", "#n")


def what(headers, views):
    """The attribute of the InvalidLibrary that is raised."""
    error = raised(Library, headers, views)
    assert isinstance(error, InvalidLibrary)
    return error.given


class TestLibrary(unittest.TestCase):
    def test_headers_and_views(self):
        headers, views = {"left": LEFT, "base": BASE}, [("base",), (), ("left", "base")]
        library = Library(headers=headers, views=views)
        for _ in range(2):
            self.assertEqual({"left": LEFT, "base": BASE}, library.headers)
            self.assertEqual((("base",), (), ("left", "base")), library.views)
            self.assertIsNot(library.headers, library.headers)
            library.headers.clear()
            headers.clear()
            views.append(("none",))
        self.assertIs(dict, type(library.headers))
        self.assertEqual(((), ()), Library({"base": BASE}, ((), ())).views)
        self.assertEqual(((), {}), (Library({}, []).views, Library({}, ()).headers))
        self.assertEqual(((),) * 9, Library({}, ((),) * 9).views)

    def test_programs_errors_come_first(self):
        self.assertEqual(("InvalidWord", "Base"), told(raised(Library, {"Base": "x", "a": "x"}, None)))
        self.assertEqual(("InvalidLine", ("a", 1)), told(raised(Library, {"b": "x", "a": "x"}, None)))
        self.assertEqual("headers", what({"base": "see none"}, None))
        self.assertEqual("headers", what({"base": BASE + "\nprint 1", "left": LEFT}, [("left", "left")]))
        self.assertEqual("headers", what({"base": BASE + "\nfor one<?t,#n>"}, []))

    def test_views(self):
        headers = {"base": BASE, "left": LEFT}
        for views in [*[value for value in ODD_VALUES if value not in ((), [])], [["base"]], [("none",)], [("base", "base")], [("base",), ("left", "base", "left")],
                      "base", {"base": 1}, [("base", None)], [(("base",),)], [(["base"],)], [({},)], ("base",), [(True,)], [("Base",)], [(), None]]:
            self.assertEqual("views", what(headers, views), views)

    def test_twice(self):
        headers = {"base": BASE, "left": LEFT, "right": LEFT.replace("#n", "#m"), "both": "see left\nname C 0"}
        for views in [[("left", "right")], [(), ("right", "both")], [("base", "both", "right")]]:
            self.assertEqual("twice", what(headers, views))
        self.assertEqual(3, len(Library(headers, [("left",), ("right", "base"), ("both", "left", "base")]).views))
        # Not all alike terms make alike patterns, and unlike generics may have alike patterns.
        other = {"base": BASE + "\ngen two<type,num>", "left": LEFT, "right": "see base\nfor two<A,#n>", "more": "see base\nfor one<A,#n+1>"}
        self.assertEqual(1, len(Library(other, [("left", "right", "more")]).views))
        self.assertEqual("views", what(headers, [("left", "right"), ("none",)]))

    def test_equal_answers(self):
        one, other = Library({"base": BASE}, [("base",)]), Library({"base": BASE}, (("base",),))
        self.assertEqual((one.views, one.headers), (other.views, other.headers))


class TestLooked(unittest.TestCase):
    def check(self, rows, **places):
        library = Library({"base": "\n".join(["name A 0", "name B 1", *rows])}, [("base",)])
        for generic, expected in places.items():
            self.assertEqual(expected, looked(library=library, generic=generic))
            looked(library, generic).append(9)
            self.assertEqual(expected, looked(library, generic))

    def test_piles_and_patterns(self):
        self.check(["gen one<type,pile,num,types>", "gen two<pile,pile>"], one=[1], two=[0, 1], none=[], base=[], A=[])
        self.check(["gen one<type,num,types>", "for one<?t,#n,(..?r)>"], one=[])
        for pattern, expected in [("A,#n,(..?r)", [0]), ("B<?t>,#n,(..?r)", [0]), ("?t,0,(..?r)", [1]), ("?t,2*#n,(..?r)", [1]), ("?t,#n+1,(..?r)", [1]),
                                  ("?t,#n,()", [2]), ("?t,#n,(?x)", [2]), ("?t,#n,(?t,..?r)", [0, 2]), ("A,3,()", [0, 1, 2])]:
            self.check(["gen one<type,num,types>", "for one<?t,#n,(..?r)>", f"for one<{pattern}>"], one=expected)

    def test_variables_that_stand_twice(self):
        self.check(["gen one<type,type,type>", "for one<?s,?t,?s>"], one=[0, 2])
        self.check(["gen one<num,num,num>", "for one<#n,#n,#m>", "for one<#n,#m,#o>"], one=[0, 1])
        self.check(["gen one<types,types,pile>", "for one<(..?r),(..?r),(..?p)>"], one=[0, 1, 2])
        self.check(["gen one<types,pile>", "for one<(..?r),(..?r)>"], one=[0, 1])

    def test_handed_on(self):
        rows = ["gen one<type,type>", "gen two<type,type,type>", "gen three<type>", "for one<B<?t>,?s>"]
        self.check([*rows, "for two<?a,?b,?c>", "  const v = one<?b,?a>.v", "for three<?x>", "  fun go() = two<A,A,?x>.go()"], one=[0], two=[1], three=[])
        self.check([*rows, "for two<?a,?b,?c>", "  const v = three<?c>.v", "for three<?x>", "  fun go() = one<B<B<?x>>,?x>.go()"], one=[0], two=[2], three=[0])
        self.check([*rows, "for three<?x>", "  const v = 1+two<A,?x,?x>.v", "for two<?a,?b,?c>", "  fun go(x) = two<?b,?c,?a>.go(1)+one<?a,?b>.go(2)"],
                   one=[0], two=[0, 1, 2], three=[0])
        self.check([*rows, "for two<?a,?b,?c>", "  fun go(x) = two<?b,?a,?c>.go(1)"], two=[])

    def test_handed_on_to_piles_and_numbers(self):
        rows = ["gen one<type,pile>", "gen two<types,type,num,num>", "gen three<num>", "for three<2*#n>", "for two<(..?r),?t,#n,#m>"]
        self.check([*rows, "  const v = one<?t,(..?r)>.v"], two=[0], one=[1])
        self.check([*rows, "  const v = one<?t,(B<?t>)>.v"], two=[1])
        self.check([*rows, "  const v = three<3*#m+1>.v+#n"], two=[3], three=[0])

    def test_all_headers_count(self):
        headers = {"base": "name A 0\ngen one<type,type>\nfor one<?s,?t>", "more": "see base\nfor one<A,?t>"}
        self.assertEqual([0], looked(Library(headers, [("base",)]), "one"))
        self.assertEqual([0], looked(Library(headers, []), "one"))


if __name__ == "__main__":
    unittest.main()
