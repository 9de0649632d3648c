"""Hexadecimal digits."""

from formsalike.counted import in_ascii


def hex_worth(octet):
    """The worth of a hexadecimal digit, small or capital, None if the octet is none."""
    if 48 <= octet <= 57:
        return octet - 48
    if 65 <= octet <= 70:
        return octet - 55
    if 97 <= octet <= 102:
        return octet - 87
    return None


def hex_digits(octet):
    """The list of the two digits that write an octet, with small letters."""
    return in_ascii(f"{octet:02x}")
