"""Points [211] and [212]: Post's problem and machines of two counters as libraries."""

import itertools
import random
import unittest

from mostspecial.apart import apart
from mostspecial.edges import counters, post, solves, states
from mostspecial.errors import ChoiceError, NoChoice, RingOfConstants, TooFar
from mostspecial.library import Library
from mostspecial.papers import is_paper
from mostspecial.plain import plain
from mostspecial.programs import Program
from mostspecial.rings import endless, no_value
from mostspecial.rows import bad
from mostspecial.verdict import verdict
from mostspecial.well import some_well
from tests.readers import reading
from tests.tools import ODD_VALUES, raised, told, type_of

PAIRS = [("A", "AB"), ("BB", "B"), ("", "A")]
RULES = ("part", "pile", "once", "twice")


def library_of(headers):
    return Library(headers, [tuple(headers)])


def listed(names):
    return ("list", tuple(type_of(name) for name in names), None)


class TestPost(unittest.TestCase):
    def test_solves(self):
        for pairs, row, expected in [(PAIRS, [0, 1], True), (PAIRS, [1, 0], False), (PAIRS, [0, 1, 0, 1], True), (PAIRS, [], False), ([], [], False), (PAIRS, (0, 1), True), ([("", "")], [0], True), ([("", "")], [], False),
                                     ([("AB", "A"), ("A", "BA")], [0, 1], True), ([("A", "B")], [0] * 50, False), ([("AA", "A"), ("A", "AA")], [0, 1] * 40, True)]:
            self.assertIs(expected, solves(pairs=pairs, row=row))
            self.assertIs(expected, solves(tuple(pairs), tuple(row)))

    def test_invalid_pairs(self):
        wrong = [[("A",)], [("A", "B", "A")], [["A", "B"]], [("A", "AAAA")], [("A", "C")], [("a", "B")], [("A", None)], [("A", 1)], [("A", "B"), None], [("A", "B")] * 4, [("A", "B"), ("A", b"B")], {"A": "B"}, [("A", "B\n")],
                 [("AB", ("A",))], ("A", "B")]
        for value in [*wrong, *[row for row in ODD_VALUES if row not in ((), [])]]:
            for call in [lambda: solves(value, None), lambda: solves(value, [0]), lambda: post(value)]:
                error = raised(call)
                self.assertEqual("InvalidPairs", type(error).__name__)
                self.assertIs(value, error.given)
        self.assertFalse(solves([], ()))

    def test_invalid_rows(self):
        for value in [[3], [-1], [0, 1, 3], [True], [False], [0, None], ["0"], [(0,)], {0: 1}, "0", None, 0, [[0]], [10 ** 30], {}]:
            error = raised(solves, PAIRS, value)
            self.assertEqual("InvalidRow", type(error).__name__)
            self.assertIs(value, error.given)
        self.assertEqual(("InvalidRow", [0]), told(raised(solves, [], [0])))

    def test_the_lines(self):
        block = ["gen start<types,types>", "inner gen upper<types,types>", "inner gen lower<types,types>", "for start<(?x,..?r),(..?w)>", "  const v = upper<(?x,..?r),(..?w)>.v+lower<(?x,..?r),(..?w)>.v"]
        self.assertEqual(["post"], list(post(pairs=[])))
        self.assertEqual(["name A 0", "name B 0", *block, "for upper<(),()>", "  const v = 0", "for lower<(),()>", "  const v = 0"], post([])["post"].split("\n"))
        rows = ["name PA 0", "name PB 0", "name PC 0", "name A 0", "name B 0", *block]
        for side, word in enumerate(["upper", "lower"]):
            rows += [f"for {word}<(),()>", "  const v = 0"]
            for name, inner in zip(["PA", "PB", "PC"], [["(A,..?w)", "(B,B,..?w)", "(..?w)"], ["(A,B,..?w)", "(B,..?w)", "(A,..?w)"]][side]):
                rows += [f"for {word}<({name},..?r),{inner}>", f"  const v = 1+{word}<(..?r),(..?w)>.v"]
        self.assertEqual({"post": "\n".join(rows)}, post(PAIRS))
        self.assertEqual({"post": "\n".join(rows)}, post(tuple(PAIRS)))
        found = post(PAIRS)
        found.clear()
        self.assertEqual(1, len(post(PAIRS)))
        self.assertIn("for lower<(PA,..?r),(B,A,B,..?w)>\n  const v = 1+lower<(..?r),(..?w)>.v", post([("AAA", "BAB")])["post"])

    def test_it_takes_apart(self):
        chance = random.Random(211)
        texts = ["".join(row) for many in range(4) for row in itertools.product("AB", repeat=many)]
        for _ in range(40):
            given = library_of(post([(chance.choice(texts), chance.choice(texts)) for _ in range(chance.randrange(4))]))
            self.assertIsNone(apart(given))
            self.assertEqual(("AsksTwo", ("post", 0)), told(raised(some_well, given, 0)))
            self.assertEqual("bad", verdict(given)[0])

    def test_open_uses_that_go_well(self):
        for pairs in [PAIRS, PAIRS[:2], [("A", "AB"), ("BA", "A")], [("", ""), ("B", "B")], [("AB", "A"), ("A", "BA")]]:
            given = library_of(post(pairs))
            names = ["PA", "PB", "PC"][:len(pairs)]
            many = 0
            for row in [row for length in range(4) for row in itertools.product(range(len(pairs)), repeat=length)]:
                joined = "".join(pairs[k][0] for k in row)
                for letters in {joined, joined + "A", joined[:-1], "".join(pairs[k][1] for k in row)}:
                    use = ("start", (listed(names[k] for k in row), listed(letters)))
                    good = solves(pairs, row) and letters == joined
                    many += good
                    self.assertIs(good, reading(given, 0, use).goes_well(), (pairs, row, letters))
            self.assertGreater(many, 0)
            self.assertFalse(reading(given, 0, ("start", (listed(["A"]), listed("A")))).goes_well())

    def test_constants(self):
        row = [0, 1, 0, 1, 2]
        for many in (2, 4):
            text = f"print start<({','.join(['PA', 'PB'] * (many // 2))}),({','.join('ABB' * (many // 2))})>.v"
            self.assertEqual([2 * many], plain(Program(post(PAIRS), {"main": "see post\n" + text}), 99))
            self.assertTrue(solves(PAIRS, row[:many]))
        with self.assertRaises(NoChoice):
            plain(Program(post(PAIRS), {"main": "see post\nprint start<(PC),()>.v"}), 99)


def all_rows(many):
    """All rows that a machine with so many may have."""
    ends = range(many + 1)
    return [("up", c, t) for c in (0, 1) for t in ends] + [("down", c, t, z) for c in (0, 1) for t in ends for z in ends]


def machines(chance):
    """All machines of no row and of one, and some of more."""
    found = [[], *[[row] for row in all_rows(1)]]
    for many in (2, 3, 4):
        found += [[chance.choice(all_rows(many)) for _ in range(many)] for _ in range(60)]
    return found


def steps_of(rows, most):
    """The states of a machine, reckoned in another way."""
    row, values, found = 0, [0, 0], [(0, 0, 0)]
    while row < len(rows) and len(found) <= most:
        head, counter, then, *zero = rows[row]
        if head == "up":
            values[counter], row = values[counter] + 1, then
        elif values[counter]:
            values[counter], row = values[counter] - 1, then
        else:
            row = zero[0]
        found.append((row, *values))
    return found


def history(rows, many):
    """The texts of the items of the history of so many first steps."""
    found, told_states = [], steps_of(rows, many)
    for (row, *_), (_, *values) in zip(told_states, told_states[1:]):
        head, counter = rows[row][:2]
        found.append("S<" * values[counter] + "Z" + ">" * values[counter] if head == "up" else "Z")
    return found


class TestStates(unittest.TestCase):
    def test_states(self):
        for rows in machines(random.Random(1)):
            for most in (0, 1, 2, 7, 60):
                self.assertEqual(steps_of(rows, most), states(rows=rows, most=most))
                self.assertEqual(steps_of(rows, most), states(tuple(rows), most))

    def test_some(self):
        self.assertEqual([(0, 0, 0)], states([], 0))
        self.assertEqual([(0, 0, 0)], states([], 1000))
        self.assertEqual([(0, 0, 0)], states([("up", 0, 1)], 0))
        self.assertEqual([(0, 0, 0), (1, 0, 1)], states([("up", 1, 1)], 1000))
        self.assertEqual([(0, k, 0) for k in range(1001)], states([("up", 0, 0)], 1000))
        self.assertEqual([(0, 0, 0)] * 6, states([("down", 0, 1, 0)], 5))
        self.assertEqual([(0, 0, 0), (1, 0, 1), (2, 0, 0)], states([("up", 1, 1), ("down", 1, 2, 0)], 9))
        found = states([("up", 0, 0)], 3)
        found.clear()
        self.assertEqual(4, len(states([("up", 0, 0)], 3)))

    def test_errors(self):
        good = [("up", 0, 1), ("down", 1, 0, 2)]
        wrong = [[("up", 0)], [("up", 0, 1, 1)], [("down", 0, 1)], [("down", 0, 1, 1, 1)], [("left", 0, 1)], [("up", 2, 0)], [("up", -1, 0)], [("up", True, 0)], [("up", False, 1)], [("up", 0, True)], [("up", 0, 2)],
                 [("up", 0, -1)], [("down", 0, 0, 2)], [("down", 0, 0, False)], [["up", 0, 1]], [("up", "0", 1)], [("up", 0, None)], [(None, 0, 1)], [("up", 0, 1), None], [("up", 0, 0)] * 5, {}, {"up": 0}, ("up", 0, 1), [()],
                 [("down", 0, 1, "x")], [("down", 0, (), 1)], [(("up",), 0, 1)]]
        for value in [*wrong, *[row for row in ODD_VALUES if row not in ((), [])]]:
            for call in [lambda: states(value, None), lambda: states(value, 5), lambda: counters(value, None), lambda: counters(value, "part")]:
                error = raised(call)
                self.assertEqual("InvalidRows", type(error).__name__)
                self.assertIs(value, error.given)
        for value in [*ODD_VALUES, 1001, 10 ** 30]:
            error = raised(states, good, value)
            self.assertEqual("InvalidMost", type(error).__name__)
            self.assertIs(value, error.given)
            error = raised(counters, good, value)
            self.assertEqual("InvalidRule", type(error).__name__)
            self.assertIs(value, error.given)
        for value in ["apart", "Once", "size", "const", "carried"]:
            self.assertEqual(("InvalidRule", value), told(raised(counters, good, value)))
        self.assertEqual(4, len(states([("up", 0, 0)] * 4, 3)))


class TestCounters(unittest.TestCase):
    ROWS = [("up", 0, 1), ("up", 1, 2), ("down", 0, 3, 4), ("down", 1, 0, 2)]

    def lines(self, rule, rows=None):
        found = counters(rows=self.ROWS if rows is None else rows, rule=rule)
        self.assertEqual(["counters"], list(found))
        self.assertEqual(found, counters(tuple(self.ROWS if rows is None else rows), rule))
        return found["counters"].split("\n")

    def test_once(self):
        kinds = "<type,type,types,types>"
        self.assertEqual(["name S 1", "name Z 0", "gen start<types>", *[f"inner gen {word}{kinds}" for word in ["rowa", "rowb", "rowc", "rowd", "end"]], "for start<(..?h)>", "  const v = rowa<Z,Z,(..?h),(..?h)>.v",
                          "for rowa<?c,?d,(S<?c>,..?l),(?w,..?r)>", "  const v = 1+rowb<?w,?d,(..?l),(..?r)>.v", "for rowa<?c,?d,(..?l),(..?r)>", "  const v = 0",
                          "for rowb<?d,?c,(S<?c>,..?l),(?w,..?r)>", "  const v = 1+rowc<?d,?w,(..?l),(..?r)>.v", "for rowb<?d,?c,(..?l),(..?r)>", "  const v = 0",
                          "for rowc<S<?c>,?d,(Z,..?l),(?w,..?r)>", "  const v = 1+rowd<?c,?d,(..?l),(..?r)>.v", "for rowc<Z,?d,(Z,..?l),(?w,..?r)>", "  const v = 1+end<Z,?d,(..?l),(..?r)>.v", "for rowc<?c,?d,(..?l),(..?r)>", "  const v = 0",
                          "for rowd<?d,S<?c>,(Z,..?l),(?w,..?r)>", "  const v = 1+rowa<?d,?c,(..?l),(..?r)>.v", "for rowd<?d,Z,(Z,..?l),(?w,..?r)>", "  const v = 1+rowc<?d,Z,(..?l),(..?r)>.v", "for rowd<?d,?c,(..?l),(..?r)>", "  const v = 0",
                          "for end<?c,?d,(?x,..?l),(?w,..?r)>", "  const v = 0"], self.lines("once"))

    def test_twice(self):
        self.assertEqual(["name S 1", "name Z 0", "gen start<types>", *[f"inner gen {word}<type,type,types>" for word in ["rowa", "rowb", "rowc", "rowd", "end"]], "for start<(..?h)>", "  const v = rowa<Z,Z,(..?h)>.v",
                          "for rowa<?c,?d,(S<?c>,..?l)>", "  const v = 1+rowb<S<?c>,?d,(..?l)>.v", "for rowa<?c,?d,(..?l)>", "  const v = 0", "for rowb<?d,?c,(S<?c>,..?l)>", "  const v = 1+rowc<?d,S<?c>,(..?l)>.v",
                          "for rowb<?d,?c,(..?l)>", "  const v = 0", "for rowc<S<?c>,?d,(Z,..?l)>", "  const v = 1+rowd<?c,?d,(..?l)>.v", "for rowc<Z,?d,(Z,..?l)>", "  const v = 1+end<Z,?d,(..?l)>.v", "for rowc<?c,?d,(..?l)>",
                          "  const v = 0", "for rowd<?d,S<?c>,(Z,..?l)>", "  const v = 1+rowa<?d,?c,(..?l)>.v", "for rowd<?d,Z,(Z,..?l)>", "  const v = 1+rowc<?d,Z,(..?l)>.v", "for rowd<?d,?c,(..?l)>", "  const v = 0",
                          "for end<?c,?d,(?x,..?l)>", "  const v = 0"], self.lines("twice"))

    def test_part(self):
        self.assertEqual(["name S 1", "name Z 0", "gen start<>", *[f"inner gen {word}<type,type>" for word in ["rowa", "rowb", "rowc", "rowd", "end"]], "for start<>", "  const v = rowa<Z,Z>.v", "for rowa<?c,?d>",
                          "  const v = 1+rowb<S<?c>,?d>.v", "for rowb<?d,?c>", "  const v = 1+rowc<?d,S<?c>>.v", "for rowc<S<?c>,?d>", "  const v = 1+rowd<?c,?d>.v", "for rowc<Z,?d>", "  const v = 1+end<Z,?d>.v",
                          "for rowd<?d,S<?c>>", "  const v = 1+rowa<?d,?c>.v", "for rowd<?d,Z>", "  const v = 1+rowc<?d,Z>.v", "for end<?c,?d>", "  const v = 0"], self.lines("part"))

    def test_pile(self):
        self.assertEqual(["name S 0", "gen start<>", *[f"inner gen {word}<pile,pile>" for word in ["rowa", "rowb", "rowc", "rowd", "end"]], "for start<>", "  const v = rowa<(),()>.v", "for rowa<(..?c),(..?d)>",
                          "  const v = 1+rowb<(S,..?c),(..?d)>.v", "for rowb<(..?d),(..?c)>", "  const v = 1+rowc<(..?d),(S,..?c)>.v", "for rowc<(S,..?c),(..?d)>", "  const v = 1+rowd<(..?c),(..?d)>.v", "for rowc<(),(..?d)>",
                          "  const v = 1+end<(),(..?d)>.v", "for rowd<(..?d),(S,..?c)>", "  const v = 1+rowa<(..?d),(..?c)>.v", "for rowd<(..?d),()>", "  const v = 1+rowc<(..?d),()>.v", "for end<(..?c),(..?d)>", "  const v = 0"],
                         self.lines("pile"))

    def test_no_rows(self):
        self.assertEqual(["name S 1", "name Z 0", "gen start<types>", "inner gen end<type,type,types,types>", "for start<(..?h)>", "  const v = end<Z,Z,(..?h),(..?h)>.v", "for end<?c,?d,(?x,..?l),(?w,..?r)>", "  const v = 0"],
                         self.lines("once", []))
        self.assertEqual(["name S 0", "gen start<>", "inner gen end<pile,pile>", "for start<>", "  const v = end<(),()>.v", "for end<(..?c),(..?d)>", "  const v = 0"], self.lines("pile", []))
        self.assertEqual(["name S 1", "name Z 0", "gen start<>", "inner gen end<type,type>", "for start<>", "  const v = end<Z,Z>.v", "for end<?c,?d>", "  const v = 0"], self.lines("part", []))

    def breaks(self, rows, rule):
        """Whether the library of a machine breaks the rule, as the document tells."""
        if rule in ("pile", "once"):
            return True
        for head, counter, then, *_ in rows:
            seen, todo = set(), [then]
            while head == "up" and todo:
                at = todo.pop()
                if at < len(rows) and at not in seen:
                    seen.add(at)
                    todo.extend(rows[at][2:])
                    if rows[at][1] == counter and (rule == "twice" or rows[at][0] == "down"):
                        return True
        return False

    def test_which_rules_are_broken(self):
        for rows in machines(random.Random(2)):
            for rule in RULES:
                found = apart(library_of(counters(rows, rule)))
                if self.breaks(rows, rule):
                    self.assertIn(found[1], (rule, "apart") if rule == "twice" else (rule,), (rows, rule))
                else:
                    self.assertIsNone(found, (rows, rule))

    def test_values_of_start(self):
        for rows in machines(random.Random(3)):
            many = len(steps_of(rows, 24)) - 1
            halts = steps_of(rows, 24)[-1][0] == len(rows)
            for rule in ("part", "pile"):
                given = Program(counters(rows, rule), {"main": "see counters\nprint start<>.v"})
                if halts:
                    self.assertEqual([many], plain(given, 1000))
                else:
                    self.assertIn(type(raised(plain, given, 1000)), (TooFar, RingOfConstants))

    def test_histories(self):
        chance, great = random.Random(4), "S<" * 12 + "Z" + ">" * 12
        for rows in [[("up", 0, 1), ("up", 0, 2), ("down", 0, 2, 3)], [("up", 1, 0)], *machines(chance)[5:90:5]]:
            halts = steps_of(rows, 9)[-1][0] == len(rows)
            whole = history(rows, 9)
            for many in range(len(whole) + 1):
                for more in [[], [great], [great, "Z", "Z"]]:
                    items = [*whole[:many], *more]
                    ended = halts and items == whole
                    for rule in ("once", "twice"):
                        text = f"see counters\nprint start<({','.join(items)})>.v"
                        if len(text) > 210:
                            continue
                        given = Program(counters(rows, rule), {"main": text})
                        if ended:
                            self.assertEqual(("NoChoice", "end"), told(raised(plain, given, 20))[:2])
                        else:
                            self.assertEqual([many], plain(given, 30), (rows, items))

    def test_what_is_said_of_those_that_take_apart(self):
        heads = set()
        for rows in machines(random.Random(5)):
            halts = steps_of(rows, 200)[-1][0] == len(rows)
            for rule in ("part", "twice"):
                given = library_of(counters(rows, rule))
                if apart(given) is not None:
                    continue
                try:
                    found = verdict(given)
                except ChoiceError as error:
                    self.assertEqual("TooLong", type(error).__name__)
                    continue
                heads.add((rule, found[0]))
                self.assertEqual(halts == (rule == "part"), found[0] == "well", (rows, rule))
                if found[0] == "well":
                    self.assertTrue(is_paper(given, found[1]))
                if rule == "twice" and halts:
                    self.assertEqual(history(rows, 200), [self.text(item) for item in bad(given, 0)[3][0][1]])
                if rule == "part" and not halts:
                    self.assertEqual(("start", ()), no_value(given, 0))
                    self.assertIn(endless(given, 0), (None, ("start", ())))
        self.assertEqual({("part", "well"), ("part", "no value"), ("part", "endless"), ("twice", "well"), ("twice", "bad")}, heads)

    def text(self, term):
        return term[1] + (f"<{self.text(term[2][0])}>" if term[2] else "")


if __name__ == "__main__":
    unittest.main()
