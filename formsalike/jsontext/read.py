"""Whole texts of JSON."""

from formsalike.jsontext.scan import JsonScanner
from formsalike.reading import value_of_text


def read_json(octets):
    """The value of the octets of a text; raises Unreadable."""
    return value_of_text(JsonScanner(), octets)
