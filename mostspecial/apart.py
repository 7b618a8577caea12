"""Whether a library takes apart."""

from mostspecial.errors import InvalidView, NotApart
from mostspecial.rules import broken_rule
from mostspecial.sizes import broken_numbers, broken_size
from mostspecial.terms import is_whole


def apart(library):
    """None if the library takes apart, else a generic, or None, and the name of a rule that does not hold."""
    if "apart" not in library.kept:
        library.kept["apart"] = find_broken(library)
    return library.kept["apart"]


def find_broken(library):
    """What `apart` returns, reckoned anew."""
    # Where there are too many definitions, the rules would take long; and there are few looks where they hold.
    if broken_numbers(library):
        return broken_size(library)
    return broken_rule(library) or broken_size(library)


def check_library(library):
    """Raise NotApart unless a library takes apart."""
    found = apart(library)
    if found is not None:
        raise NotApart(found[0], found[1])


def check_view(library, k):
    """Raise InvalidView unless this is the index of a view, and NotApart unless the library takes apart."""
    if not is_whole(k) or not 0 <= k < len(library.views):
        raise InvalidView(k)
    check_library(library)
