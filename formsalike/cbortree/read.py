"""Whole texts of CBOR."""

from formsalike.cbortree.scan import CborScanner
from formsalike.reading import value_of_text


def read_cbor(octets):
    """The value of the octets of a text; raises Unreadable."""
    return value_of_text(CborScanner(), octets)
