"""The canonical octets of keys, and of values that are neither lists nor maps, in CBOR."""

from formsalike.cbortree.heads import shortest_head
from formsalike.cbortree.marks import BYTES, DECIMAL_TAG, FALSE_INFO, LARGEST_EXPONENT, LIST, NEGATIVE, NEGATIVE_TAG
from formsalike.cbortree.marks import NULL_INFO, POSITIVE, POSITIVE_TAG, SIMPLE, TAG, TEXT, TRUE_INFO
from formsalike.decimals import whole
from formsalike.integers import shortest
from formsalike.utf8 import encode

# Numbers with an exponent from 0 up to this one are written as integers.
LARGEST_SCALE = 64
FIRST_LARGE = 2 ** 64


def is_lacking(value):
    """Whether CBOR lacks this value, whatever is in it."""
    return value[0] == "number" and not -LARGEST_EXPONENT <= value[2] <= LARGEST_EXPONENT


def leaf_octets(value):
    """The list of the octets of a value that is neither a list nor a map, and that CBOR has."""
    if value[0] == "number":
        return _number_octets(value[1], value[2])
    if value[0] == "bytes":
        return shortest_head(BYTES, len(value[1])) + list(value[1])
    if value[0] == "text":
        return key_octets(value[1])
    if value[0] == "null":
        return shortest_head(SIMPLE, NULL_INFO)
    return shortest_head(SIMPLE, TRUE_INFO if value[1] else FALSE_INFO)


def key_octets(points):
    """The list of the octets of a key, or of a text."""
    octets = encode(points)
    return shortest_head(TEXT, len(octets)) + octets


def _number_octets(m, e):
    integer = whole(m, e, LARGEST_SCALE)
    if integer is not None:
        return _integer_octets(integer)
    return shortest_head(TAG, DECIMAL_TAG) + shortest_head(LIST, 2) + _integer_octets(e) + _integer_octets(m)


def _integer_octets(integer):
    is_negative = integer < 0
    n = -1 - integer if is_negative else integer
    if n < FIRST_LARGE:
        return shortest_head(NEGATIVE if is_negative else POSITIVE, n)
    octets = shortest(n)
    tag = shortest_head(TAG, NEGATIVE_TAG if is_negative else POSITIVE_TAG)
    return tag + shortest_head(BYTES, len(octets)) + octets
