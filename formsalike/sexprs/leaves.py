"""Which values S-expressions have, and the octets of atoms that are written loosely."""

from formsalike.hexdigits import hex_digits
from formsalike.sexprs.atoms import begins_token, goes_on_token
from formsalike.sexprs.marks import BACKSLASH, FIRST_PLAIN, HASH, LAST_PLAIN, QUOTE


def is_lacking(value):
    """Whether S-expressions lack this value, whatever is in it."""
    return value[0] not in ("bytes", "list")


def loose_octets(octets):
    """The list of the octets of an atom: a token, or a quoted atom, or else a hexadecimal one."""
    if _can_be_token(octets):
        return list(octets)
    if all([FIRST_PLAIN <= octet <= LAST_PLAIN for octet in octets]):
        return _quoted(octets)
    return _hexadecimal(octets)


def _can_be_token(octets):
    return len(octets) > 0 and begins_token(octets[0]) and all([goes_on_token(octet) for octet in octets])


def _quoted(octets):
    written = [QUOTE]
    for octet in octets:
        if octet in (QUOTE, BACKSLASH):
            written.append(BACKSLASH)
        written.append(octet)
    written.append(QUOTE)
    return written


def _hexadecimal(octets):
    written = [HASH]
    for octet in octets:
        written.extend(hex_digits(octet))
    written.append(HASH)
    return written
