"""Drawings: the sorts that are met, and what they come to, as lines."""

from mostspecial.apart import check_view
from mostspecial.scopes import scope_of
from mostspecial.steps import outcomes
from mostspecial.table import sorts


def draw(library, k):
    """A string for each sort that is met in a view."""
    check_view(library, k)
    return sorted([line_of(library, k, sort) for sort in sorts(library, k)])


def line_of(library, k, sort):
    """The string of a sort."""
    generic, plain, first = sort
    kinds = scope_of(library, k).shapes[generic].plain_kinds
    text = ",".join([sight_text(kind, sight) for kind, sight in zip(kinds, plain)])
    if first is not None:
        text += ";" + ("()" if first == "()" else sight_text("type", first))
    marks, none, two = outcomes(library, k, sort)
    words = [f"{word}.{number}" for word, number in marks]
    if none:
        words.append("none")
    if two:
        words.append("two")
    return f"{generic}<{text}>:" + "".join([" " + word for word in words])


def sight_text(kind, sight):
    """The text of a sight."""
    if kind == "num":
        return f"#{sight[1]}" if sight[0] == "small" else f"#..{sight[1]}"
    return "+".join([str(index) for index in sight]) if sight else "-"
