"""Sights: what patterns can tell of terms."""

from mostspecial.apart import check_library, check_view
from mostspecial.choices import Counts
from mostspecial.errors import InvalidTerm, NoTerm
from mostspecial.eyes import eyes_of
from mostspecial.reaches import all_sights
from mostspecial.samples import Fresh, samples_of
from mostspecial.scopes import header_names, is_sight_form, scope_of
from mostspecial.sizes import MOST_SIGHTS
from mostspecial.terms import check_kind, scan


def looks(library):
    """The texts of the looks of a library."""
    check_library(library)
    return list(eyes_of(library).texts)


def measure(library):
    """The bound and the step of a library."""
    check_library(library)
    eyes = eyes_of(library)
    return eyes.bound, eyes.step


def sight(library, kind, term):
    """The sight of a closed term of a kind."""
    check_library(library)
    check_kind(kind)
    found = scan((term,), (kind,), Counts(header_names(library)))
    if found is None or found[1] > 0:
        raise InvalidTerm(term)
    return eyes_of(library).sight_of(kind, term, {})


def sights(library, k, kind):
    """The sights that terms of a view have."""
    check_view(library, k)
    check_kind(kind)
    return list(scope_of(library, k).sights[kind])


def term_of(library, k, kind, sight):
    """A term of a view with a sight, with as few type names as any."""
    check_view(library, k)
    check_kind(kind)
    if not scope_of(library, k).is_sight(sight, kind):
        raise NoTerm(sight)
    fresh = Fresh([name for name, count in header_names(library)])
    return samples_of(library).closed(kind, sight, fresh)


def single(library, kind, sight):
    """Whether just one closed term of a kind has a sight."""
    check_library(library)
    check_kind(kind)
    known = sights_of_all(library)[kind]
    if not is_sight_form(sight, kind) or sight not in known:
        raise NoTerm(sight)
    return samples_of(library).is_single(kind, sight)


def sights_of_all(library):
    """The sights of each kind of terms with the names that all headers tell."""
    if "sights" not in library.kept:
        library.kept["sights"] = all_sights(eyes_of(library), header_names(library), MOST_SIGHTS)
    return library.kept["sights"]
