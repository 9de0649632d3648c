"""The canonical octets of keys, and of values that are neither lists nor maps, in BER."""

from formsalike.bertree.headers import INDEFINITE
from formsalike.bertree.tags import BYTES, DECIMAL, INTEGER, NULL_TAG, TEXT, TRUTH
from formsalike.counted import in_ascii
from formsalike.decimals import signed_digits, whole
from formsalike.integers import shortest, shortest_signed
from formsalike.utf8 import encode

# Numbers with an exponent from 0 up to this one are written as integers.
LARGEST_SCALE = 64

# The kind of decimal numbers with a mark and an exponent.
WITH_EXPONENT = 3

TRUE_OCTET = 255
FALSE_OCTET = 0


def element(tag, contents):
    """The list of the octets of an element whose length is definite and written in the fewest octets."""
    return [tag] + _length_octets(len(contents)) + contents


def _length_octets(length):
    if length < INDEFINITE:
        return [length]
    octets = shortest(length)
    return [INDEFINITE + len(octets)] + octets


def leaf_octets(value):
    """The list of the octets of a value that is neither a list nor a map."""
    if value[0] == "number":
        return _number_octets(value[1], value[2])
    if value[0] == "bytes":
        return element(BYTES, list(value[1]))
    if value[0] == "text":
        return key_octets(value[1])
    if value[0] == "null":
        return element(NULL_TAG, [])
    return element(TRUTH, [TRUE_OCTET if value[1] else FALSE_OCTET])


def key_octets(points):
    """The list of the octets of a key, or of a text."""
    return element(TEXT, encode(points))


def _number_octets(m, e):
    integer = whole(m, e, LARGEST_SCALE)
    if integer is not None:
        return element(INTEGER, shortest_signed(integer))
    return element(DECIMAL, [WITH_EXPONENT] + in_ascii(signed_digits(m) + ".E" + signed_digits(e)))
