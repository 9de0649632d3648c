"""Whole texts of S-expressions."""

from formsalike.sexprs.scan import SexpScanner
from formsalike.reading import value_of_text


def read_sexp(octets):
    """The value of the octets of a text; raises Unreadable."""
    return value_of_text(SexpScanner(), octets)
