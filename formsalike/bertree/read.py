"""Whole texts of BER."""

from formsalike.bertree.scan import BerScanner
from formsalike.reading import value_of_text


def read_ber(octets):
    """The value of the octets of a text; raises Unreadable."""
    return value_of_text(BerScanner(), octets)
