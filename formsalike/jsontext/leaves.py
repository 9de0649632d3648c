"""The canonical octets of keys, and of values that are neither lists nor maps, in JSON."""

from formsalike.counted import in_ascii
from formsalike.decimals import layout
from formsalike.hexdigits import hex_digits
from formsalike.jsontext.marks import BACKSLASH, QUOTE
from formsalike.utf8 import encode

# What is written behind a backslash for the code points that have an escape of one octet.
SHORT_ESCAPES = {34: 34, 92: 92, 8: 98, 9: 116, 10: 110, 13: 114, 12: 102}

FIRST_PLAIN = 32


def is_lacking(value):
    """Whether JSON lacks this value, whatever is in it."""
    return value[0] == "bytes"


def leaf_octets(value):
    """The list of the octets of a value that is neither a list nor a map, and that JSON has."""
    if value[0] == "number":
        return in_ascii(layout(value[1], value[2]))
    if value[0] == "text":
        return string_octets(value[1])
    if value[0] == "null":
        return in_ascii("null")
    return in_ascii("true" if value[1] else "false")


def string_octets(points):
    """The list of the octets of a key, or of a text."""
    octets = [QUOTE]
    for point in points:
        octets.extend(_character_octets(point))
    octets.append(QUOTE)
    return octets


def _character_octets(point):
    """The octets of a code point in a string."""
    if point in SHORT_ESCAPES:
        return [BACKSLASH, SHORT_ESCAPES[point]]
    if point < FIRST_PLAIN:
        return [BACKSLASH] + in_ascii("u00") + hex_digits(point)
    return encode((point,))
