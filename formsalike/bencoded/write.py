"""The canonical texts of bencode."""

from formsalike.bencoded.marks import LARGEST_EXPONENT
from formsalike.counted import in_ascii, with_count
from formsalike.decimals import digits_of, whole
from formsalike.errors import Unwritable
from formsalike.utf8 import encode
from formsalike.values import walk


def write_bencode(value):
    """The list of the canonical octets of a value; raises Unwritable."""
    lacking = bencode_lacks(value)
    if lacking is not None:
        raise Unwritable(lacking)
    return _octets_of(value)


def bencode_lacks(value):
    """The index in preorder of the first value that bencode lacks, or None."""
    for index, found in enumerate(walk(value)):
        if _is_lacking(found):
            return index
    return None


def _is_lacking(value):
    """Whether bencode lacks this value, whatever is in it."""
    if value[0] == "number":
        return not 0 <= value[2] <= LARGEST_EXPONENT
    return value[0] not in ("bytes", "list", "map")


def _octets_of(value):
    """The octets of a value that bencode has."""
    if value[0] == "number":
        return number_octets(value[1], value[2])
    if value[0] == "bytes":
        return with_count(value[1])
    octets = in_ascii("l" if value[0] == "list" else "d")
    if value[0] == "list":
        for item in value[1]:
            octets.extend(_octets_of(item))
    else:
        # UTF-8 keeps the order of the code points, so the entries are in the right order.
        for key, part in value[1]:
            octets.extend(key_octets(key))
            octets.extend(_octets_of(part))
    octets.extend(in_ascii("e"))
    return octets


def number_octets(m, e):
    """The octets of a number that bencode has."""
    integer = whole(m, e, LARGEST_EXPONENT)
    sign = "-" if integer < 0 else ""
    return in_ascii("i" + sign + digits_of(abs(integer)) + "e")


def key_octets(key):
    """The octets of a key."""
    return with_count(encode(key))
