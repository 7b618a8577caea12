"""The texts of headers that go as machines of two counters do."""

GENERICS = ("rowa", "rowb", "rowc", "rowd")


class Signs:
    """How a header of a rule writes numbers: nothing, one more than ?c, and some as they are."""

    def __init__(self, rule):
        piles = rule == "pile"
        self.zero = "()" if piles else "Z"
        self.more = "(S,..?c)" if piles else "S<?c>"
        self.one = "(..?c)" if piles else "?c"
        self.other = "(..?d)" if piles else "?d"
        self.lists = 2 if rule == "once" else 1 if rule == "twice" else 0
        # What a counter becomes that goes up: what the second list says of it, if there is one.
        self.grown = "?w" if rule == "once" else self.more

    def written(self, generic, counter, numbers, lists):
        """The text of a pattern or a use; the numbers change places for the counter 1."""
        inner = ",".join([*(numbers[::-1] if counter == 1 else numbers), *lists[:self.lists]])
        return f"{generic}<{inner}>"


def counter_lines(rows, rule):
    """The lines of the header of a machine."""
    signs = Signs(rule)
    names = [*GENERICS[:len(rows)], "end"]
    kinds = ",".join([*(["pile", "pile"] if rule == "pile" else ["type", "type"]), *["types", "types"][:signs.lists]])
    lines = ["name S 0"] if rule == "pile" else ["name S 1", "name Z 0"]
    lines.append("gen start<types>" if signs.lists else "gen start<>")
    lines.extend([f"inner gen {name}<{kinds}>" for name in names])
    lines.append("for start<(..?h)>" if signs.lists else "for start<>")
    lines.append("  const v = " + signs.written(names[0], 0, [signs.zero, signs.zero], ["(..?h)", "(..?h)"]) + ".v")
    for name, row in zip(names, rows):
        lines.extend(row_lines(signs, names, name, row))
    ended = signs.written("end", 0, [signs.one, signs.other], ["(?x,..?l)", "(?w,..?r)"])
    lines.extend([f"for {ended}", "  const v = 0"])
    return lines


def row_lines(signs, names, name, row):
    """The lines of the definitions of a row."""
    head, counter, then = row[:3]
    if head == "up":
        lines = step_lines(signs, counter, (name, signs.one, "(S<?c>,..?l)"), (names[then], signs.grown))
    else:
        lines = step_lines(signs, counter, (name, signs.more, "(Z,..?l)"), (names[then], signs.one))
        lines.extend(step_lines(signs, counter, (name, signs.zero, "(Z,..?l)"), (names[row[3]], signs.zero)))
    if signs.lists:
        lines.append("for " + signs.written(name, counter, [signs.one, signs.other], ["(..?l)", "(..?r)"]))
        lines.append("  const v = 0")
    return lines


def step_lines(signs, counter, here, there):
    """The lines of a definition that goes one step, from a generic with a number and a first list to another one."""
    generic, number, history = here
    further, new = there
    pattern = signs.written(generic, counter, [number, signs.other], [history, "(?w,..?r)"])
    use = signs.written(further, counter, [new, signs.other], ["(..?l)", "(..?r)"])
    return [f"for {pattern}", f"  const v = 1+{use}.v"]
