"""The faults of programs, layer by layer."""

from mostspecial.expressions import all_in
from mostspecial.matches import kind_of, renamed
from mostspecial.sources import expression_of, numbers_in, uses_in
from mostspecial.terms import named_types, plain_kinds, standing
from mostspecial.termtexts import write_terms

# For each layer there is a function of the sources of a program, by their words and in the order of texts. It
# returns a list of faults, in which some may stand several times. The headers are told by their words.


def first_faults(sources, headers):
    """The faults of the first layer that has some, each once, ascending."""
    for source in list(sources.values()):
        source.reach(sources, headers)
    found = see_faults(sources, headers) or telling_faults(sources) or fitting_faults(sources, headers)
    return sorted(set(found or meaning_faults(sources)))


def see_faults(sources, headers):
    """The faults of the first layer."""
    found = []
    for word, source in sources.items():
        for number, line in enumerate(source.lines, start=1):
            if line[0] == "see" and not may_see(word, line[1], sources, headers):
                found.append((word, number, "see"))
    return found


def may_see(word, other, sources, headers):
    """Whether the text of a word may see the one of another word."""
    return other in headers and other != word and word not in sources[other].reached


def telling_faults(sources):
    """The faults of the second layer."""
    found, told = [], {}
    for word, source in sources.items():
        known = known_in(source, sources)
        for number, line in enumerate(source.lines, start=1):
            if line[0] in ("name", "gen"):
                if line[1] in told:
                    found.append((word, number, "twice"))
                told[line[1]] = True
            if not all(name in known for name in used_in(line)):
                found.append((word, number, "unknown"))
    return found


def known_in(source, sources):
    """The type names and the generics in the view of a text, as the keys of a dict."""
    known = {}
    for row in [source, *[sources[word] for word in source.reached]]:
        for told in [*row.names, *row.generics]:
            known[told[0]] = True
    return known


def used_in(line):
    """The type names and the generics that stand in the pattern or the uses of a line."""
    found = []
    for generic, terms in uses_in(line):
        found.append(generic)
        found.extend([name for name, many in named_types(terms)])
    return found


def fitting_faults(sources, headers):
    """The faults of the third layer."""
    counts, generics = {}, {}
    for source in sources.values():
        counts.update({name: many for name, many in source.names})
        generics.update({word: (kinds, inner) for word, kinds, inner in source.generics})
    found = []
    for word, source in sources.items():
        own = []
        for number, line in enumerate(source.lines, start=1):
            own = own if line[0] in ("const", "fun") else kinds_in(line)
            wrong = line_faults(line, counts, generics)
            if has_two_kinds(line, own):
                wrong.append("kind")
            if line[0] == "print" and word in headers:
                wrong.append("print")
            if word not in headers and any(generics[generic][1] for generic, terms in uses_in(line)):
                wrong.append("inner")
            found.extend([(word, number, what) for what in wrong])
    return found


def line_faults(line, counts, generics):
    """Which of "count" and "kind" the type names, the pattern and the uses of a line are wrong by."""
    found = []
    for generic, terms in uses_in(line):
        kinds = generics[generic][0]
        if any(counts[name] != many for name, many in named_types(terms)) or len(terms) != len(kinds):
            found.append("count")
        if len(terms) == len(kinds) and [kind_of(term) for term in terms] != plain_kinds(kinds):
            found.append("kind")
    return found


def kinds_in(line):
    """The tuples (variable, kind) of all places at which variables stand in a line."""
    found = [(variable, "num") for variable in numbers_in(line)]
    for _, terms in uses_in(line):
        found.extend(standing(terms))
    return found


def has_two_kinds(line, own):
    """Whether a variable that stands in a line has two kinds there, or there and in some further places."""
    here = kinds_in(line)
    kinds = {}
    for variable, kind in [*here, *own]:
        kinds.setdefault(variable, {})[kind] = True
    return any(len(kinds[variable]) > 1 for variable, kind in here)


def meaning_faults(sources):
    """The faults of the fourth layer."""
    found = []
    told = {word: told_patterns(source) for word, source in sources.items()}
    for word, source in sources.items():
        for number, line in enumerate(source.lines, start=1):
            if line[0] == "print":
                found.extend([(word, number, what) for what in member_faults(line, [], ())])
        for first, _, pattern, members in source.definitions:
            own = standing(pattern)
            for number, member in enumerate(members, start=first + 1):
                found.extend([(word, number, what) for what in member_faults(member, own, members)])
        found.extend(alike_faults(source, sources, told))
    return found


def member_faults(line, own, members):
    """Which of "variable", "own" and "round" a member of a definition, or a print line, is wrong by.

    `own` has the variables of the definition's pattern with their kinds.
    """
    known = {variable: True for variable, kind in own}
    found = []
    if not all(variable in known for variable, kind in kinds_in(line)):
        found.append("variable")
    if not all(is_told(part, line, members) for part in all_in(expression_of(line))):
        found.append("own")
    if line[0] == "const" and leads_back(line, members):
        found.append("round")
    return found


def is_told(part, line, members):
    """Whether what an expression of a line names, if it is a name or an own function, is there."""
    if part[0] == "name":
        if line[0] == "fun" and part[1] in line[2]:
            return True
        return any(member[:2] == ("const", part[1]) for member in members)
    if part[0] == "own":
        return any(member[:2] == ("fun", part[1]) and len(member[2]) == len(part[2]) for member in members)
    return True


def leads_back(line, members):
    """Whether names lead from a constant, through constants of its definition, back to it."""
    expressions = {member[1]: member[2] for member in members if member[0] == "const"}
    todo, seen = [line[1]], {}
    while todo:
        for part in all_in(expressions[todo.pop()]):
            if part[0] == "name" and part[1] == line[1]:
                return True
            if part[0] == "name" and part[1] in expressions and part[1] not in seen:
                seen[part[1]] = True
                todo.append(part[1])
    return False


def told_patterns(source):
    """For each definition of a text a string that alike patterns of one generic share, and its place."""
    found = []
    for number, generic, pattern, _ in source.definitions:
        found.append((f"{generic}<{write_terms(renamed(pattern))}>", (source.word, number)))
    return found


def alike_faults(source, sources, told):
    """The faults by alike patterns in the view of a text that no header which it sees has in its view."""
    groups, found = {}, []
    for word in [source.word, *source.reached]:
        for text, place in told[word]:
            groups.setdefault(text, []).append(place)
    for group in groups.values():
        own = [number for word, number in group if word == source.word]
        others = sorted({word for word, number in group if word != source.word})
        # No header that a text sees has this text itself in its view, but each has all of its own text.
        later = own if others else own[1:]
        if not all_together(source, others, sources):
            later = [0, *later]
        found.extend([(source.word, number, "twice") for number in later])
    return found


def all_together(source, words, sources):
    """Whether for each two texts that a text reaches, a header that it sees has both in its view."""
    views = [[word, *sources[word].reached] for word in source.sees]
    for k, one in enumerate(words):
        for other in words[:k]:
            if not any(one in row and other in row for row in views):
                return False
    return True
