"""The canonical texts of bencode."""

from formsalike.bencoded.leaves import is_lacking, key_octets, leaf_octets
from formsalike.bencoded.marks import SMALL_D, SMALL_E, SMALL_L
from formsalike.lacking import check_writable, first_lacking


def write_bencode(value):
    """The list of the canonical octets of a value; raises Unwritable."""
    check_writable(value, is_lacking)
    return _octets_of(value)


def bencode_lacks(value):
    """The index in preorder of the first value that bencode lacks, or None."""
    return first_lacking(value, is_lacking)


def _octets_of(value):
    """The octets of a value that bencode has."""
    if value[0] not in ("list", "map"):
        return leaf_octets(value)
    octets = [SMALL_L if value[0] == "list" else SMALL_D]
    if value[0] == "list":
        for item in value[1]:
            octets.extend(_octets_of(item))
    else:
        # UTF-8 keeps the order of the code points, so the entries are in the right order.
        for key, part in value[1]:
            octets.extend(key_octets(key))
            octets.extend(_octets_of(part))
    octets.append(SMALL_E)
    return octets
