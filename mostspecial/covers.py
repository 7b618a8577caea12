"""Covers: whether each use that a pattern takes is taken by a pattern of a list."""

from mostspecial.errors import NotCovered
from mostspecial.matches import renamed
from mostspecial.splits import is_tree, search


def outside(pattern, patterns):
    """A use that a pattern takes and no pattern of a list takes, or None if there is none."""
    _, use = search(renamed(pattern), list(enumerate(patterns)), ())
    return use


def cover(pattern, patterns):
    """A tree that shows that each use which a pattern takes is taken by a pattern of a list."""
    tree, use = search(renamed(pattern), list(enumerate(patterns)), ())
    if use is not None:
        raise NotCovered(use)
    return tree


def is_cover(pattern, patterns, value):
    """Whether a value is a tree for a pattern and a list of patterns."""
    return is_tree(pattern, dict(enumerate(patterns)), value)
