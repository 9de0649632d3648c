"""Whole texts, which are read by the scanner of their form."""

from formsalike.events import Builder


def value_of_text(scanner, octets):
    """The value of the octets of a text, by a new scanner of its form; raises Unreadable."""
    builder = Builder()
    for octet in octets:
        _take_all(builder, scanner.step(octet))
    _take_all(builder, scanner.end())
    return builder.value


def _take_all(builder, events):
    for event in events:
        builder.take(event)
