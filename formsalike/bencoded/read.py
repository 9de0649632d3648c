"""Whole texts of bencode."""

from formsalike.bencoded.scan import BencodeScanner
from formsalike.reading import value_of_text


def read_bencode(octets):
    """The value of the octets of a text; raises Unreadable."""
    return value_of_text(BencodeScanner(), octets)
