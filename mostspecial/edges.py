"""Libraries that do what Post's problem and machines of two counters do."""

from mostspecial.choices import check_most
from mostspecial.counting import counter_lines
from mostspecial.errors import InvalidPairs, InvalidRow, InvalidRows, InvalidRule
from mostspecial.terms import has_only, is_whole

MOST_PAIRS = 3
MOST_LETTERS = 3
MOST_ROWS = 4
RULES = ("part", "pile", "once", "twice")
PAIR_NAMES = ("PA", "PB", "PC")
START_LINES = (
    "gen start<types,types>",
    "inner gen upper<types,types>",
    "inner gen lower<types,types>",
    "for start<(?x,..?r),(..?w)>",
    "  const v = upper<(?x,..?r),(..?w)>.v+lower<(?x,..?r),(..?w)>.v",
)


def is_pair(value):
    """Whether a value is a tuple of two strings of letters."""
    return isinstance(value, tuple) and len(value) == 2 and all(are_letters(text) for text in value)


def are_letters(value):
    """Whether a value is a short string of the letters A and B."""
    return isinstance(value, str) and len(value) <= MOST_LETTERS and has_only(value, "AB")


def check_pairs(pairs):
    """Raise InvalidPairs unless these are pairs of strings."""
    if not isinstance(pairs, (list, tuple)) or len(pairs) > MOST_PAIRS or not all(is_pair(pair) for pair in pairs):
        raise InvalidPairs(pairs)


def solves(pairs, row):
    """Whether the upper strings of a row of pairs, joined, are the lower ones."""
    check_pairs(pairs)
    if not isinstance(row, (list, tuple)) or not all(is_whole(k) and 0 <= k < len(pairs) for k in row):
        raise InvalidRow(row)
    upper, lower = ["".join([pairs[k][side] for k in row]) for side in (0, 1)]
    return len(row) > 0 and upper == lower


def post(pairs):
    """The header by which a use goes well for just the rows that solve some pairs."""
    check_pairs(pairs)
    names = PAIR_NAMES[:len(pairs)]
    lines = [f"name {name} 0" for name in [*names, "A", "B"]]
    lines.extend(START_LINES)
    for side, word in enumerate(["upper", "lower"]):
        lines.extend([f"for {word}<(),()>", "  const v = 0"])
        for name, pair in zip(names, pairs):
            letters = ",".join([*pair[side], "..?w"])
            lines.append(f"for {word}<({name},..?r),({letters})>")
            lines.append(f"  const v = 1+{word}<(..?r),(..?w)>.v")
    return {"post": "\n".join(lines)}


def is_row(value, many):
    """Whether a value is a row of a machine with so many rows."""
    if not isinstance(value, tuple) or len(value) not in (3, 4):
        return False
    if value[0] != ("up" if len(value) == 3 else "down"):
        return False
    counter, ends = value[1], value[2:]
    return is_whole(counter) and counter in (0, 1) and all(is_whole(end) and 0 <= end <= many for end in ends)


def check_rows(rows):
    """Raise InvalidRows unless these are the rows of a machine."""
    if not isinstance(rows, (list, tuple)) or len(rows) > MOST_ROWS or not all(is_row(row, len(rows)) for row in rows):
        raise InvalidRows(rows)


def states(rows, most):
    """The states of a machine as they come, up to where it halts or to that behind so many steps."""
    check_rows(rows)
    check_most(most)
    found = [(0, 0, 0)]
    while found[-1][0] < len(rows) and len(found) <= most:
        found.append(state_behind(rows, found[-1]))
    return found


def state_behind(rows, state):
    """The state one step behind a state."""
    at, *values = state
    head, counter, then = rows[at][:3]
    if head == "up":
        values[counter] += 1
    elif values[counter] == 0:
        then = rows[at][3]
    else:
        values[counter] -= 1
    return then, values[0], values[1]


def counters(rows, rule):
    """The header by which uses go as a machine does; it breaks no rule of libraries that take apart but one."""
    check_rows(rows)
    if not isinstance(rule, str) or rule not in RULES:
        raise InvalidRule(rule)
    return {"counters": "\n".join(counter_lines(rows, rule))}
