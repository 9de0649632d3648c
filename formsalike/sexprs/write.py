"""The canonical texts of S-expressions."""

from formsalike.counted import with_count
from formsalike.lacking import check_writable, first_lacking
from formsalike.sexprs.leaves import is_lacking
from formsalike.sexprs.marks import CLOSES, OPENS


def write_sexp(value):
    """The list of the canonical octets of a value; raises Unwritable."""
    check_writable(value, is_lacking)
    return _octets_of(value)


def sexp_lacks(value):
    """The index in preorder of the first value that S-expressions lack, or None."""
    return first_lacking(value, is_lacking)


def _octets_of(value):
    """The octets of a value that S-expressions have."""
    if value[0] == "bytes":
        return with_count(value[1])
    octets = [OPENS]
    for item in value[1]:
        octets.extend(_octets_of(item))
    octets.append(CLOSES)
    return octets
