"""The canonical texts of CBOR."""

from formsalike.cbortree.heads import shortest_head
from formsalike.cbortree.leaves import is_lacking, key_octets, leaf_octets
from formsalike.cbortree.marks import LIST, MAP
from formsalike.lacking import check_writable, first_lacking


def write_cbor(value):
    """The list of the canonical octets of a value; raises Unwritable."""
    check_writable(value, is_lacking)
    return _octets_of(value)


def cbor_lacks(value):
    """The index in preorder of the first value that CBOR lacks, or None."""
    return first_lacking(value, is_lacking)


def _octets_of(value):
    """The octets of a value that CBOR has."""
    if value[0] == "list":
        octets = shortest_head(LIST, len(value[1]))
        for item in value[1]:
            octets.extend(_octets_of(item))
        return octets
    if value[0] == "map":
        octets = shortest_head(MAP, len(value[1]))
        for key, part in _in_order(value[1]):
            octets.extend(key)
            octets.extend(_octets_of(part))
        return octets
    return leaf_octets(value)


def _in_order(entries):
    """Pairs of the octets of a key and its value, in ascending order of the octets."""
    pairs = [(key_octets(key), part) for key, part in entries]
    return sorted(pairs, key=lambda pair: pair[0])
