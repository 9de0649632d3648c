"""The canonical texts of BER."""

from formsalike.bertree.leaves import element, key_octets, leaf_octets
from formsalike.bertree.tags import LIST, MAP


def write_ber(value):
    """The list of the canonical octets of a value; BER has all values."""
    if value[0] == "list":
        return element(LIST, _together([write_ber(item) for item in value[1]]))
    if value[0] == "map":
        return element(MAP, _together(sorted([_entry_octets(entry) for entry in value[1]])))
    return leaf_octets(value)


def _entry_octets(entry):
    """The octets of an entry, an element with the tag of a list."""
    return element(LIST, key_octets(entry[0]) + write_ber(entry[1]))


def _together(rows):
    """The octets of some rows, one behind the other."""
    octets = []
    for row in rows:
        octets.extend(row)
    return octets
