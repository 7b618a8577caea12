"""Whether all open uses of a library go well."""

from mostspecial.apart import check_library
from mostspecial.books import unlike
from mostspecial.proofs import paper_of
from mostspecial.rings import endless, no_value
from mostspecial.rows import bad


def verdict(library):
    """A paper of the library, or what does not go well."""
    check_library(library)
    for k in range(len(library.views)):
        found = verdict_on(library, k)
        if found is not None:
            return found
    found = unlike(library)
    return ("well", paper_of(library)) if found is None else ("unlike", *found)


def verdict_on(library, k):
    """What does not go well in a view, or None."""
    found = bad(library, k)
    if found is not None:
        return ("bad", k, *found)
    found = endless(library, k)
    if found is not None:
        return ("endless", k, *found)
    found = no_value(library, k)
    return None if found is None else ("no value", k, *found)
