"""Points [71] and [72]: expressions and texts of units."""

import random
import unittest

from mostspecial.errors import InvalidLine
from mostspecial.texts import read_unit, write_unit
from tests.tools import raised, type_of

A = type_of("A")
X, Y = ("name", "x"), ("name", "y")
EMPTY = ((), (), (), (), ())


def expression(text):
    """The expression that a print line prints."""
    return read_unit("print " + text)[4][0]


def num(n):
    return ("num", n)


class Texts(unittest.TestCase):
    def wrong(self, text, number):
        error = raised(read_unit, text)
        self.assertEqual((InvalidLine, number), (type(error), error.given), text)

    def wrong_expression(self, text):
        self.wrong("print " + text, 1)
        self.wrong("for one<>\n  const v = " + text, 2)
        self.wrong("for one<>\n  fun go(x) = " + text, 2)

    def both(self, text, value):
        """Check that a text is read as an expression, which is written as this text again."""
        self.assertEqual(value, expression(text), text)
        unit = ((), (), (), (), (value,))
        self.assertEqual("print " + text, write_unit(unit))
        self.assertEqual(unit, read_unit(write_unit(unit)))
        members = (("const", "v", value), ("fun", "go", ("x",), value))
        unit = ((), (), (), (("one", (), members),), ())
        self.assertEqual(unit, read_unit(write_unit(unit=unit)))


class TestExpressions(Texts):
    def test_atoms(self):
        self.both("0", num(0))
        self.both("12", num(12))
        self.both("1" + "0" * 24, num(10 ** 24))
        self.both("#n", ("of", "n"))
        self.both("#n12", ("of", "n12"))
        self.both("#if", ("of", "if"))
        self.both("x", X)
        self.both("abcdefgh", ("name", "abcdefgh"))
        self.both("go()", ("own", "go", ()))
        self.both("go(x,1,y)", ("own", "go", (X, num(1), Y)))
        self.both("one<>.v", ("const", "one", (), "v"))
        self.both("one<>.go()", ("call", "one", (), "go", ()))
        self.both("one<A,#n+1,(A,..?r),?t,3>.go(x,y)",
                  ("call", "one", (A, ("form", 1, "n", 1), ("list", (A,), "r"), ("var", "t"), 3), "go", (X, Y)))
        self.assertEqual(X, expression("(((x)))"))

    def test_wrong_atoms(self):
        for text in """00 01 1_0 -1 +1 1. .1 1x x1 x_y X xX abcdefghi # #N #1 #abcde ?t A A() if then else see const fun for
                print name gen inner if() go( go) go(,) go(x,) go(,x) go(x y) go(x;y) () (x (x)) x) x( ) one<> one<>. one<>.V
                one<>.if one<.v one>.v one<A.v one<A>v one<A>..v one<A,>.v one<,A>.v one<a>.v one<B<A)>.v one<B<A;>.v one<A).v one<A>.v. one<A>.v.w one<A<>>.v
                one<1*#n>.v one<#n+0>.v one<01>.v one<(A,)>.v one<(..?r,A)>.v one<A>.go(x one<A>.abcdefghi One<>.v if<>.v
                one<x>.v one<1+1>.v one.v x<y<z x=y=z x<y=z x==y x<=y x>y x&y x/y x+ +x x++y x-+y x** *x x- x< <x x= =x x+*y
                1000000000000000000000001 10000000000000000000000000000000000000000000000000000 \u0663 #n\u0663 \u00e9
                one<1000000000000000000000001>.v one<1000000000000000000000001*#n>.v one<#n+1000000000000000000000001>.v
                one<A>vv one<A>,v one<A>+v one<>vv one<A>:go() one+A>.v one(A>.v one=A>.v one?A>.go(x) one)>.v
                x%y {x} "x" x,y""".split():
            self.wrong_expression(text)
        for text in ["", " ", " x", "x ", "x + y", "x +y", "go (x)", "go(x, y)", "( x)", "one<A, A>.v", "one <A>.v", "# n", "x\t"]:
            self.wrong_expression(text)

    def test_signs_and_their_strength(self):
        self.both("x+y", ("add", X, Y))
        self.both("x-y", ("sub", X, Y))
        self.both("x*y", ("mul", X, Y))
        self.both("x<y", ("less", X, Y))
        self.both("x=y", ("same", X, Y))
        self.both("x-y-1", ("sub", ("sub", X, Y), num(1)))
        self.both("x-(y-1)", ("sub", X, ("sub", Y, num(1))))
        self.both("x+(y+1)", ("add", X, ("add", Y, num(1))))
        self.both("x*y*2", ("mul", ("mul", X, Y), num(2)))
        self.both("x*(y*2)", ("mul", X, ("mul", Y, num(2))))
        self.both("x+y*2", ("add", X, ("mul", Y, num(2))))
        self.both("x*y+2", ("add", ("mul", X, Y), num(2)))
        self.both("(x+y)*2", ("mul", ("add", X, Y), num(2)))
        self.both("x*(y+2)", ("mul", X, ("add", Y, num(2))))
        self.both("x+1<y-1", ("less", ("add", X, num(1)), ("sub", Y, num(1))))
        self.both("x+1=y*2", ("same", ("add", X, num(1)), ("mul", Y, num(2))))
        self.both("(x<y)<1", ("less", ("less", X, Y), num(1)))
        self.both("x<(y=1)", ("less", X, ("same", Y, num(1))))
        self.both("(x<y)+1", ("add", ("less", X, Y), num(1)))
        self.both("1+(x=y)", ("add", num(1), ("same", X, Y)))
        self.both("2*#n+1", ("add", ("mul", num(2), ("of", "n")), num(1)))
        self.both("#n+1", ("add", ("of", "n"), num(1)))
        self.assertEqual(("sub", ("sub", X, Y), num(1)), expression("((x-y)-(1))"))
        self.assertEqual(("add", X, Y), expression("(x)+((y))"))

    def test_if(self):
        self.both("if x then y else 1", ("if", X, Y, num(1)))
        inner = ("if", X, Y, num(1))
        self.both("if if x then y else 1 then x else y", ("if", inner, X, Y))
        self.both("if x then if x then y else 1 else y", ("if", X, inner, Y))
        self.both("if x then y else if x then y else 1", ("if", X, Y, inner))
        self.both("(if x then y else 1)+2", ("add", inner, num(2)))
        self.both("if x then y else 1+2", ("if", X, Y, ("add", num(1), num(2))))
        self.both("2*(if x then y else 1)", ("mul", num(2), inner))
        self.both("if x<y then x=y else x*y", ("if", ("less", X, Y), ("same", X, Y), ("mul", X, Y)))
        self.both("go(if x then y else 1,x<y)", ("own", "go", (inner, ("less", X, Y))))
        self.both("(if x then y else 1)<2", ("less", inner, num(2)))
        for text in ["if x then y", "if x", "if x then y else", "if x then y else ", "ifx then y else 1", "if x theny else 1",
                     "if x  then y else 1", "if x then  y else 1", "if x then y  else 1", "1+if x then y else 1", "if(x) then y else 1",
                     "if  x then y else 1", "if x then y else 1 else 2", "if x else y then 1", "if then else", "x if y else 1",
                     "2*if x then y else 1", "if x then y else 1<if x then y else 1", "If x then y else 1"]:
            self.wrong_expression(text)

    def test_comparing_beside_uses(self):
        self.both("x<3", ("less", X, num(3)))
        self.both("x<3>.v", ("const", "x", (3,), "v"))
        self.both("x<3>.v<3", ("less", ("const", "x", (3,), "v"), num(3)))
        self.both("x<x<3>.v", ("less", X, ("const", "x", (3,), "v")))
        self.both("x<#n", ("less", X, ("of", "n")))
        self.both("x<#n+1", ("less", X, ("add", ("of", "n"), num(1))))
        self.both("x<#n+1>.v", ("const", "x", (("form", 1, "n", 1),), "v"))
        self.both("x<2*#n", ("less", X, ("mul", num(2), ("of", "n"))))
        self.both("go(x<3,4)", ("own", "go", (("less", X, num(3)), num(4))))
        self.both("go(x<3,4>.v)", ("own", "go", (("const", "x", (3, 4), "v"),)))
        self.both("x<()>.v", ("const", "x", (("list", (), None),), "v"))
        self.both("x<3>.go(y)", ("call", "x", (3,), "go", (Y,)))
        self.both("x<3>.v*2+1", ("add", ("mul", ("const", "x", (3,), "v"), num(2)), num(1)))
        self.both("go(x)<3", ("less", ("own", "go", (X,)), num(3)))
        for text in ["x<3>", "x<3>.", "x<3>.3", "x<3>y", "x<A", "x<()", "x<(A)", "go(x)<3>.v", "(x)<3>.v", "x<3>.v>.w", "x<x<3>.v>.v"]:
            self.wrong_expression(text)
        # Brackets hold expressions apart that would else be a use.
        self.assertEqual(("less", X, num(3)), expression("(x)<3"))

    def test_any_names_and_numbers_of_args(self):
        many = type_of("Zed", *[A] * 5)
        self.both("x<Zed<A,A,A,A,A>>.v", ("const", "x", (many,), "v"))
        self.both("x<?t,(..?t),#t>.v", ("const", "x", (("var", "t"), ("list", (), "t"), ("form", 1, "t", 0)), "v"))
        self.both("x<1,2,3,4,5,6,7>.v", ("const", "x", (1, 2, 3, 4, 5, 6, 7), "v"))
        deep = "x<" + "B<" * 60 + "A" + ">" * 61 + ".v"
        self.assertEqual("const", expression(deep)[0])

    def test_depth(self):
        self.assertEqual("add", expression("+".join(["1"] * 8))[0])
        self.wrong_expression("+".join(["1"] * 9))
        self.wrong_expression("+".join(["1"] * 90))
        self.assertEqual("mul", expression("*".join(["x"] * 8))[0])
        self.wrong_expression("*".join(["x"] * 9))
        self.wrong_expression("1+(1+(1+(1+(1+(1+(1+(1+1)))))))")
        self.assertEqual("add", expression("1+(1+(1+(1+(1+(1+(1+1))))))")[0])
        self.assertEqual("own", expression("go(go(go(go(go(go(go(x)))))))")[0])
        self.wrong_expression("go(go(go(go(go(go(go(go(x))))))))")
        self.assertEqual("own", expression("go(go(go(go(go(go(go(go())))))))")[0])
        nested = "x"
        for k in range(1, 10):
            nested = f"if {nested} then 1 else 0"
            if k <= 7:
                self.assertEqual("if", expression(nested)[0])
            else:
                self.wrong_expression(nested)
        self.assertEqual("const", expression("one<P<P<P<P<P<P<P<P<A,A>,A>,A>,A>,A>,A>,A>,A>>.v")[0])
        self.wrong_expression("if " * 60 + "x")

    def test_brackets(self):
        for many in range(1, 9):
            self.assertEqual(X, expression("(" * many + "x" + ")" * many))
        self.wrong_expression("(" * 9 + "x" + ")" * 9)
        self.wrong_expression("(" * 90 + "x" + ")" * 90)
        self.assertEqual(("own", "go", (X,)), expression("(((((((go(x))))))))"))
        self.wrong_expression("((((((((go(x)))))))))")
        self.wrong_expression("((((((((go()))))))))")
        self.assertEqual(("own", "go", ()), expression("(((((((go())))))))"))
        self.wrong_expression("((((((((one<>.go()))))))))")
        self.assertEqual("const", expression("((((((((one<(A,A)>.v))))))))")[0])
        self.assertEqual("add", expression("((((((((x))))))))+((((((((y))))))))")[0])
        self.assertEqual("own", expression("go((((((((x))))))),(((((((y))))))))")[0])

    def test_written_brackets_are_needed(self):
        chance = random.Random(71)
        for _ in range(1500):
            value = random_expression(chance, chance.randrange(1, 7))
            unit = ((), (), (), (), (value,))
            text = write_unit(unit)
            if len(text) <= 200 and text.count("(") <= 8:
                self.assertEqual(unit, read_unit(text))


def random_expression(chance, depth):
    """An expression by a source of chance."""
    below = [lambda: random_expression(chance, depth - 1)] * 3
    if depth == 1:
        return chance.choice([X, num(chance.randrange(20)), ("of", "n"), ("const", "one", (3, A), "v"), ("own", "go", ())])
    head = chance.choice(["add", "sub", "mul", "less", "same", "if", "own", "call"])
    if head == "if":
        return (head, *[make() for make in below])
    args = tuple(make() for make in below[:chance.randrange(1, 3)])
    if head == "own":
        return (head, "go", args)
    return (head, "one", (A,), "go", args) if head == "call" else (head, *[make() for make in below[:2]])


class TestLines(Texts):
    def test_each_line(self):
        self.assertEqual(EMPTY, read_unit(text=""))
        self.assertEqual((("base", "more"), (), (), (), ()), read_unit("see base\nsee more"))
        self.assertEqual((("Box", 1), ("A", 0), ("T", 3), ("P", 2)), read_unit("name Box 1\nname A 0\nname T 3\nname P 2")[1])
        text = "gen one<>\ninner gen two<type,num,types,pile>\ngen three<pile,pile>"
        self.assertEqual((("one", (), False), ("two", ("type", "num", "types", "pile"), True),
                          ("three", ("pile", "pile"), False)), read_unit(text)[2])
        text = "for one<>\nfor two<?t,#n,(..?r),()>\n  const v = 1\n  fun go() = 2\n  fun to(x,y) = x\nfor one<>\n  const v = 3"
        first, second, third = read_unit(text)[3]
        self.assertEqual(("one", (), ()), first)
        pattern = (("var", "t"), ("form", 1, "n", 0), ("list", (), "r"), ("list", (), None))
        members = (("const", "v", num(1)), ("fun", "go", (), num(2)), ("fun", "to", ("x", "y"), X))
        self.assertEqual((("two", pattern, members), ("one", (), (("const", "v", num(3)),))), (second, third))
        self.assertEqual((num(1), num(2)), read_unit("print 1\nprint 2")[4])

    def test_lines_in_any_order(self):
        text = "print 1\nfor one<>\n  const v = 1\nname A 0\nsee base\nfor two<A>\ngen one<>\nsee more\nprint x"
        unit = read_unit(text)
        self.assertEqual((("base", "more"), (("A", 0),), (("one", (), False),),
                          (("one", (), (("const", "v", num(1)),)), ("two", (A,), ())), (num(1), X)), unit)
        self.assertEqual(unit, read_unit(write_unit(unit)))

    def test_wrong_lines(self):
        rows = """see|see |see Base|see if|see base more|see  base| see base|see base |See base|seebase|see 1|name A|name a 0|
            name A 4|name A -1|name A 00|name A  0|name A 0 |name A 0 1|name A x|name  A 0|name Abcdefghi 0|name|name A\t0|
            gen one|gen one<|gen one>|gen one<type|gen one<types|gen one<num,piles|gen one<type)|gen one<pile>>|gen one<>>|gen one<> |gen One<>|gen if<>|gen one<type,>|gen one<,type>|gen one<type, num>|
            gen one<Type>|gen one<types,type,num,pile,num>|gen one<type num>|gen  one<>|gen one <>|inner one<>|innergen one<>|
            inner gen one|inner  gen one<>|gen inner one<>|gen abcdefghi<>|gen one<?t>|gen one<kind>|gen <>|for one|for one<|for one<A|for one(A>|for one+A>|for one?A>|
            for one<A> |for One<A>|for if<A>|for one<A,>|for one<,A>|for one<A, A>|for one<a>|for one<A>.v|for one<1*#n>|for <A>|
            for one<(A>|for one<A>>|for  one<A>|for one<01>|print|print |print x |print  x| print x|Print x|print x y|const v = 1|
            fun go() = 1|end|x|# x|-|gen one<type,num,types,pile,type>|for one<A B>|name A 3.|see é"""
        for line in [row.lstrip() if row.startswith("\n") else row for row in rows.split("|")]:
            for before in ["", "see other\n", "print 1\n"]:
                self.wrong(before + line, 1 + before.count("\n"))

    def test_wrong_members(self):
        for line in ["  const v = ", "  const v =1", "  const v= 1", "  const v  = 1", "  const  v = 1", "   const v = 1", " const v = 1",
                     "const v = 1", "\tconst v = 1", "  const V = 1", "  const if = 1", "  const v = 1 ", "  const = 1", "  const v",
                     "  const v = 1 = 2", "  const v() = 1", "  fun go = 1", "  fun go() = ", "  fun go()= 1", "  fun go() =1",
                     "  fun go () = 1", "  fun go(x,) = 1", "  fun go(,x) = 1", "  fun go(x, y) = 1", "  fun go(x,x) = 1", "  fun go(X) = 1",
                     "  fun go(if) = 1", "  fun go(x = 1", "  fun gox) = 1", "  fun Go() = 1", "  fun fun() = 1", "  fun go(1) = 1",
                     "  fun go(x)) = 1", "  fun go((x)) = 1", "  fun go(x) = (1", "  fun (x) = 1", " fun go() = 1", "  Fun go() = 1",
                     "  fun  go() = 1", "  fun go(abcdefghi) = 1", "  fun go(x,y,x) = 1", "  print 1", "  ", " ", "", "  v = 1"]:
            self.wrong("for one<>\n  const w = 0\n" + line, 3)
            self.wrong("for one<>\n" + line + "\n  const w = 0", 2)

    def test_where_members_stand(self):
        for line in ["  const v = 1", "  fun go(x) = 1"]:
            self.assertEqual(1, len(read_unit("for one<>\n" + line)[3][0][2]))
            self.wrong(line, 1)
            for before in ["see base", "name A 0", "gen one<>", "inner gen one<>", "print 1"]:
                self.wrong(before + "\n" + line, 2)
                self.wrong("for one<>\n  const w = 1\n" + before + "\n" + line, 4)

    def test_members_with_one_word(self):
        for first in ["  const v = 1", "  fun v() = 1"]:
            for second in ["  const v = 2", "  fun v() = 2", "  fun v(x) = 2"]:
                self.wrong("for one<>\n" + first + "\n  const w = 1\n" + second, 4)
                self.assertEqual(2, len(read_unit("for one<>\n" + first + "\nfor one<>\n" + second)[3]))

    def test_see_twice(self):
        self.wrong("see base\nsee more\nname A 0\nsee base", 4)
        self.assertEqual(2, len(read_unit("name A 0\nname A 0")[1]))
        self.assertEqual(2, len(read_unit("gen one<>\ngen one<>")[2]))

    def test_line_feeds(self):
        self.wrong("\n", 1)
        self.wrong("see base\n", 2)
        self.wrong("\nsee base", 1)
        self.wrong("see base\n\nsee more", 2)
        for sign in ["\r", "\r\n", "\x0b", "\x0c", "\x85", "\u2028", "\x1c"]:
            self.wrong("see base" + sign + "see more", 1)
            self.wrong("see base" + sign, 1)

    def test_signs_of_a_pattern(self):
        row = ",".join(["A"] * 12)
        self.assertEqual(12, len(read_unit(f"for one<{row}>")[3][0][1]))
        self.assertEqual(1, len(read_unit(f"for one<({row})>")[3][0][1]))
        self.assertEqual(2, len(read_unit(f"for one<({row}),()>")[3][0][1]))
        for more in [",3", ",A", ",?t", ",#n", ",(..?r)", ",2*#n+1"]:
            self.wrong(f"for one<{row}{more}>", 1)
            self.wrong(f"for one<({row}){more}>", 1)
        self.wrong(f"for one<({row},..?r)>", 1)
        self.wrong("for one<" + "B<" * 12 + "A" + ">" * 13, 1)
        self.assertEqual("for", "for" if read_unit("for one<" + "B<" * 11 + "A" + ">" * 12)[3] else "")
        self.assertEqual(13, len(expression(f"one<{row},A>.v")[2]))

    def test_numbers(self):
        great = "1" + "0" * 24
        text = f"for one<{great}*#n+{great},{great}>\n  const v = {great}"
        unit = read_unit(text)
        self.assertEqual((("form", 10 ** 24, "n", 10 ** 24), 10 ** 24), unit[3][0][1])
        self.assertEqual(text, write_unit(unit))
        for k, text in enumerate([f"for one<{great[:-1]}1*#n>", f"for one<#n+{great[:-1]}1>", f"for one<{great[:-1]}1>", "for one<00>",
                                  "for one<#n+01>", "for one<0*#n>", "for one<1*#n>", "for one<#n+0>", "print 00", "print 01"]):
            self.wrong("see base\n" + text, 2)

    def test_lines_of_200_signs(self):
        line = "print " + "+".join(["1"] * 5) + "*" + "9" * 20
        self.assertLess(len(line), 200)
        row = ",".join(["A"] * 94)
        longest = f"print one<{row}>.v"
        self.assertEqual(200, len(longest))
        self.assertEqual(94, len(read_unit(longest)[4][0][2]))
        self.wrong(longest + "v", 1)
        self.wrong("see base\n" + longest + "v", 2)
        self.wrong("print " + "x" * 300, 1)
        self.wrong("print one<" + "P<" * 300, 1)

    def test_200_lines(self):
        lines = ["print 1"] * 200
        self.assertEqual(200, len(read_unit("\n".join(lines))[4]))
        self.wrong("\n".join(lines + ["print 1"]), 201)
        self.wrong("\n".join(lines + ["x"]), 201)
        self.wrong("\n".join(lines + [""]), 201)
        self.wrong("\n".join(lines[:100] + ["x"] + lines), 101)
        members = ["for one<>"] + [f"  const {chr(97 + k // 26)}{chr(97 + k % 26)}{chr(97 + k % 5)} = 1" for k in range(199)]
        self.assertEqual(199, len(read_unit("\n".join(members).replace("if", "ii"))[3][0][2]))

    def test_first_wrong_line(self):
        self.wrong("see base\nx\ny\nsee base", 2)
        self.wrong("see base\nsee base\nx", 2)
        self.wrong("name A 0\nprint 1 + 1\nname", 2)

    def test_written_units(self):
        text = "\n".join(["see base", "see more", "name A 0", "name P 2", "gen one<>", "inner gen two<type,pile>",
                          "for two<P<?s,?t>,(A,..?r)>", "  const v = 2*two<?s,(..?r)>.v-1", "  fun go(x,y) = if x<y then v else go(y,x)",
                          "for one<>", "print one<>.v", "print (1+2)*3"])
        unit = read_unit(text)
        self.assertEqual(text, write_unit(unit))
        self.assertEqual(unit, read_unit(write_unit(unit)))
        self.assertEqual("", write_unit(EMPTY))
        moved = "\n".join(text.split("\n")[::-1][:2] + text.split("\n")[:10])
        self.assertEqual(read_unit(moved), read_unit(write_unit(read_unit(moved))))

    def test_written_lines_are_no_longer(self):
        text = "print " + "+".join(["1234567890123456789012"] * 8) + "+1" * 0
        self.assertEqual(text, write_unit(read_unit(text)))
        text = "print ((((((((x))))))))"
        self.assertEqual("print x", write_unit(read_unit(text)))


if __name__ == "__main__":
    unittest.main()
