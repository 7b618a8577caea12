"""Texts of units: reading and writing them."""

from mostspecial.errors import InvalidLine
from mostspecial.expressions import WEAK, bracketed_terms_at, read_expression, word_at, write_expression
from mostspecial.terms import MOST_PATTERN_SIGNS, MOST_PLACES, PLACE_KINDS, count_signs, is_type_name, is_word
from mostspecial.termtexts import write_terms

MOST_LINES = 200
MOST_LINE_SIGNS = 200
COUNTS = ("0", "1", "2", "3")

# A line is read as one of the tuples ("see", word), ("name", name, count), ("gen", word, kinds, inner),
# ("for", generic, pattern), ("const", word, expression), ("fun", word, parameters, expression) and
# ("print", expression), or as None if it is no line.


def read_line(line):
    """Read one line, without a look at other ones."""
    if line.startswith("see "):
        return ("see", line[4:]) if is_word(line[4:]) else None
    if line.startswith("name "):
        return read_name(line[5:])
    if line.startswith("gen "):
        return read_generic(line[4:], False)
    if line.startswith("inner gen "):
        return read_generic(line[10:], True)
    if line.startswith("for "):
        return read_for(line[4:])
    if line.startswith("  const "):
        return read_const(line[8:])
    if line.startswith("  fun "):
        return read_fun(line[6:])
    if line.startswith("print "):
        expression = read_expression(line[6:])
        return None if expression is None else ("print", expression)
    return None


def read_name(text):
    """Read a line that tells a type name."""
    name, _, count = text.partition(" ")
    return ("name", name, COUNTS.index(count)) if is_type_name(name) and count in COUNTS else None


def read_generic(text, inner):
    """Read a line that tells a generic."""
    word, _, behind = text.partition("<")
    if not is_word(word) or not behind.endswith(">"):
        return None
    kinds = tuple(behind[:-1].split(",")) if behind != ">" else ()
    if len(kinds) > MOST_PLACES or not all(kind in PLACE_KINDS for kind in kinds):
        return None
    return ("gen", word, kinds, inner)


def read_for(text):
    """Read a line that begins a definition."""
    found = word_at(text, 0)
    if found is None:
        return None
    word, at = found
    found = bracketed_terms_at(text, at)
    if found is None or found[1] != len(text) or count_signs(found[0]) > MOST_PATTERN_SIGNS:
        return None
    return ("for", word, found[0])


def read_const(text):
    """Read a line that tells a constant."""
    word, _, behind = text.partition(" = ")
    expression = read_expression(behind)
    return None if expression is None or not is_word(word) else ("const", word, expression)


def read_fun(text):
    """Read a line that tells a function."""
    word, _, behind = text.partition("(")
    inside, _, behind = behind.partition(") = ")
    parameters = tuple(inside.split(",")) if inside else ()
    expression = read_expression(behind)
    if expression is None or not all(is_word(name) for name in [word, *parameters]):
        return None
    if len(set(parameters)) != len(parameters):
        return None
    return ("fun", word, parameters, expression)


def read_lines(text):
    """The lines of a text up to the first wrong one, and the number of this one, 0 if none is wrong."""
    found, seen, members = [], {}, None
    for number, line in enumerate(text.split("\n") if text else [], start=1):
        short = number <= MOST_LINES and len(line) <= MOST_LINE_SIGNS
        read = read_line(line) if short else None
        if read is None:
            return found, number
        if read[0] in ("const", "fun"):
            if members is None or read[1] in members:
                return found, number
            members[read[1]] = True
        else:
            members = {} if read[0] == "for" else None
        if read[0] == "see":
            if read[1] in seen:
                return found, number
            seen[read[1]] = True
        found.append(read)
    return found, 0


def told_by(lines, head):
    """The lines of one kind, in their order, without what tells their kind."""
    return [line[1:] for line in lines if line[0] == head]


def definitions_of(lines):
    """The definitions of a text, in their order: tuples (number of a line, generic, pattern, members)."""
    found = []
    for number, line in enumerate(lines, start=1):
        if line[0] == "for":
            found.append((number, line[1], line[2], []))
        elif line[0] in ("const", "fun"):
            found[-1][3].append(line)
    return [(number, generic, pattern, tuple(members)) for number, generic, pattern, members in found]


def read_unit(text):
    """The unit of a text."""
    lines, wrong = read_lines(text)
    if wrong:
        raise InvalidLine(wrong)
    sees = tuple([row[0] for row in told_by(lines, "see")])
    prints = tuple([row[0] for row in told_by(lines, "print")])
    definitions = tuple([row[1:] for row in definitions_of(lines)])
    return sees, tuple(told_by(lines, "name")), tuple(told_by(lines, "gen")), definitions, prints


def write_unit(unit):
    """A text of a unit."""
    sees, names, generics, definitions, prints = unit
    lines = [f"see {word}" for word in sees]
    lines.extend([f"name {name} {count}" for name, count in names])
    for word, kinds, inner in generics:
        before, inside = "inner gen" if inner else "gen", ",".join(kinds)
        lines.append(f"{before} {word}<{inside}>")
    for generic, pattern, members in definitions:
        lines.append(f"for {generic}<{write_terms(pattern)}>")
        lines.extend([write_member(member) for member in members])
    lines.extend([f"print {write_expression(expression, WEAK)}" for expression in prints])
    return "\n".join(lines)


def write_member(member):
    """The line of a member."""
    if member[0] == "const":
        return f"  const {member[1]} = {write_expression(member[2], WEAK)}"
    inside = ",".join(member[2])
    return f"  fun {member[1]}({inside}) = {write_expression(member[3], WEAK)}"
