"""The canonical octets of keys, and of values that are neither lists nor maps, in bencode."""

from formsalike.bencoded.marks import LARGEST_EXPONENT
from formsalike.counted import in_ascii, with_count
from formsalike.decimals import signed_digits, whole
from formsalike.utf8 import encode


def is_lacking(value):
    """Whether bencode lacks this value, whatever is in it."""
    if value[0] == "number":
        return not 0 <= value[2] <= LARGEST_EXPONENT
    return value[0] not in ("bytes", "list", "map")


def leaf_octets(value):
    """The list of the octets of a value that is neither a list nor a map, and that bencode has."""
    if value[0] == "number":
        integer = whole(value[1], value[2], LARGEST_EXPONENT)
        return in_ascii("i" + signed_digits(integer) + "e")
    return with_count(value[1])


def key_octets(key):
    """The list of the octets of a key."""
    return with_count(encode(key))
