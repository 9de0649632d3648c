"""The canonical texts of JSON."""

from formsalike.jsontext.leaves import is_lacking, leaf_octets, string_octets
from formsalike.jsontext.marks import COLON, COMMA, LIST_CLOSES, LIST_OPENS, MAP_CLOSES, MAP_OPENS
from formsalike.lacking import check_writable, first_lacking
from formsalike.orders import by_units


def write_json(value):
    """The list of the canonical octets of a value; raises Unwritable."""
    check_writable(value, is_lacking)
    return _octets_of(value)


def json_lacks(value):
    """The index in preorder of the first value that JSON lacks, or None."""
    return first_lacking(value, is_lacking)


def _octets_of(value):
    """The octets of a value that JSON has."""
    if value[0] == "list":
        return [LIST_OPENS] + _with_commas([_octets_of(item) for item in value[1]]) + [LIST_CLOSES]
    if value[0] == "map":
        return [MAP_OPENS] + _with_commas([_entry_octets(entry) for entry in by_units(value[1])]) + [MAP_CLOSES]
    return leaf_octets(value)


def _entry_octets(entry):
    """The octets of a key, the colon and its value."""
    return string_octets(entry[0]) + [COLON] + _octets_of(entry[1])


def _with_commas(rows):
    """The octets of some rows, with a comma between two of them."""
    octets = []
    for index, row in enumerate(rows):
        if index > 0:
            octets.append(COMMA)
        octets.extend(row)
    return octets
