"""More libraries by a source of chance: with carried places, several headers, and definitions that ask one inner use."""

from tests.trials import MachineMaker, Maker

REAL = {"ctype": "type", "cnum": "num", "ctypes": "types"}
LETTERS = {"type": "t", "num": "n", "types": "r", "pile": "r", **{kind: REAL[kind][0] for kind in REAL}, "ctypes": "r"}


def bare_text(kind, name):
    """The text of a bare variable."""
    kind = REAL.get(kind, kind)
    return "?" + name if kind == "type" else "#" + name if kind == "num" else f"(..?{name})"


def split_terms(text):
    """The texts of terms with commas between."""
    found, depth = [""], 0
    for sign in text:
        depth += (sign in "<(") - (sign in ">)")
        if sign == "," and depth == 0:
            found.append("")
        else:
            found[-1] += sign
    return found if text else []


class RichMaker(Maker):
    """Libraries whose generics have carried places behind the others, and mostly a definition that takes all uses."""

    ONE = False
    STOP = 0.35
    ELSEWHERE = 0.15
    MEMBERS = [("  const v = ", [".v"]), ("  fun go(x) = ", [".v", ".go(x)", ".go(1)"]), ("  const w = v+", [".v"])]
    VIEWS = [[("base",)], [("base",), ("more",)], [("more",), ("other",)], [("base",), ("more",), ("other",), ("more", "other")], [("base",), ("base",)]]

    def generic(self, word):
        kinds = [self.pick(self.place_kinds) for _ in range(self.pick([0, 1, 1, 1, 2, 2]))]
        while kinds.count("pile") > 1:
            kinds.remove("pile")
        kinds += [self.pick(["ctype", "ctype", "cnum", "ctypes"]) for _ in range(self.pick([0, 0, 1, 1, 2]))]
        return word, kinds[:4], self.chance.random() < self.inner

    def carried_term(self, kind, left, types):
        """A term for a carried place, by the carried variables that are left."""
        own = [name for name in left if name[0] == LETTERS[kind]]
        roll = self.chance.random()

        def use(name):
            left.remove(name)
            return name
        if kind == "ctype":
            if own and roll < 0.7:
                return ("?{}" if roll < 0.5 else "B<?{}>").format(use(self.pick(own)))
            if len(own) > 1 and roll < 0.8:
                return f"P<?{use(own[0])},?{use(own[1])}>"
            return self.pick([*types, "A", "B<A>", "P<A,A>"])
        if kind == "cnum":
            return "#" + use(self.pick(own)) + self.pick(["", "", "", "+1", "+2"]) if own and roll < 0.8 else self.pick(["0", "3", "9"])
        if own and roll < 0.7:
            return ("(..?{})" if roll < 0.55 else "(A,..?{})").format(use(self.pick(own)))
        return self.pick(["()", "(A)"])

    def use_text(self, generics, parts, carried):
        word, kinds, _ = self.pick(generics)
        left = list(carried)
        inner = self.inner_use([(word, [kind for kind in kinds if kind not in REAL], False)], parts)
        rows = split_terms(inner[len(word) + 1:-1])[::-1]
        return f"{word}<{','.join(self.carried_term(kind, left, parts['type']) if kind in REAL else rows.pop() for kind in kinds)}>"

    def definition(self, generic, generics, every=False):
        own = {"type": [], "num": [], "types": []}
        word, kinds, _ = generic
        pattern, carried = [], []
        for kind in kinds:
            if kind in REAL or every:
                self.many += 1
                name = LETTERS[kind] + str(self.many)
                pattern.append(bare_text(kind, name))
                carried.extend([name] if kind in REAL else [])
            else:
                pattern.append(self.term(kind, own))
        seen = [(text, kind) for text, kind in zip(pattern, kinds) if kind not in REAL]
        parts = self.parts([text for text, kind in seen], [kind for text, kind in seen])
        only = self.use_text(generics, parts, carried) if self.ONE else None
        lines = [f"for {word}<{','.join(pattern)}>"]
        for head, asks in self.MEMBERS:
            if self.chance.random() < (0.4 if " w " in head else 0.97):
                many = 0 if self.chance.random() < self.STOP else self.pick([1, 1, 2])
                uses = [only or self.use_text(generics, parts, carried) for _ in range(many)]
                lines.append(head + "+".join(["1", *[use + self.pick(asks) for use in uses]]))
        return lines

    def library(self):
        self.often = 0.1
        generics = [self.generic(word) for word in ["f", "g", "h", "e"][:self.pick([1, 2, 2, 3, 3, 4])]]
        told = [f"{'inner ' if inner else ''}gen {word}<{','.join(REAL.get(kind, kind) for kind in kinds)}>" for word, kinds, inner in generics]
        texts = {"base": ["name A 0", "name B 1", "name P 2", *told], "more": ["see base", "name C 0"], "other": ["see base"]}
        for generic in generics:
            for number in range(self.pick([1, 2, 3, 3, 4])):
                lines = self.definition(generic, generics, number == 0 and self.chance.random() < 0.9)
                elsewhere = number and self.chance.random() < self.ELSEWHERE
                texts["more" if "C" in lines[0] else self.pick(["more", "other"]) if elsewhere else "base"] += lines
        return {word: "\n".join(lines) for word, lines in texts.items()}, self.pick(self.VIEWS)


class ViewsMaker(RichMaker):
    """Libraries whose views have unlike definitions, of which few ask anything."""

    STOP = 0.65
    ELSEWHERE = 0.6
    VIEWS = [[("base",), ("more",), ("other",)], [("more",), ("other",)], [("base",), ("other", "more")]]


class OneMaker(RichMaker):
    """Libraries whose definitions ask one inner use at most."""

    ONE = True
    STOP = 0.2


class CallMaker(OneMaker):
    """Such libraries with functions alone, of which some call one another for ever."""

    STOP = 0.05
    MEMBERS = [("  fun go(x) = ", [".go(x)", ".go(x)", ".go(1)", ".go(x)+1"]), ("  fun we(x) = ", [".go(x)"])]


class OneMachineMaker(MachineMaker):
    """Libraries with one pile that is worked off, by definitions that ask one inner use each."""

    def asking(self, generic, texts, targets):
        word, kinds, _ = generic
        own = {"type": [], "num": [], "types": []}
        pattern = [self.filled(text, own) for text in texts]
        uses = [self.inner_use(targets, self.parts(pattern, kinds))]
        if word == "end" and self.chance.random() < 0.5:
            uses = []
        head, asked = self.member
        return [f"for {word}<{','.join(pattern)}>", head + "".join(f"+{use}{asked}" for use in uses)]

    def library(self):
        self.member = self.pick([("  const v = 1", ".v"), ("  fun v() = 1", ".v()")])
        start = ("start", self.pick([["type"], ["types"], ["type", "type"], ["pile", "type"], ["types", "num"], ["pile"]]), False)
        run = ("run", [self.pick(["num", "type"]), "pile"], self.chance.random() < 0.7)
        end = ("end", [self.pick(["num", "type"])], True)
        base = ["name A 0", "name B 1", "name P 2"]
        base += [f"{'inner ' if inner else ''}gen {word}<{','.join(kinds)}>" for word, kinds, inner in (start, run, end)]
        base += self.asking(start, [self.STARTS[kind][0] for kind in start[1]], [run])
        for _ in range(self.pick([0, 1, 2])):
            base += self.asking(start, [self.pick(self.STARTS[kind]) for kind in start[1]], [run])
        for _ in range(self.pick([3, 4, 5, 6])):
            base += self.asking(run, [self.pick(self.STATES[run[1][0]]), self.pick(self.PILES)], [run, run, run, run, run, end])
        for _ in range(self.pick([0, 1, 2])):
            base += self.asking(end, [self.pick(self.STATES[end[1][0]])], [run, end])
        return {"base": "\n".join(base), "more": "see base\nname C 0"}, [("base",)]
