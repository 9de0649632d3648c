"""The worths of binary floating-point numbers, given by their bits."""

from formsalike.decimals import from_binary


def half(bits):
    """The pair of a float of 16 bits, None for infinities and for what is no number."""
    return _worth(bits, 10, 5)


def single(bits):
    """The pair of a float of 32 bits, None for infinities and for what is no number."""
    return _worth(bits, 23, 8)


def double(bits):
    """The pair of a float of 64 bits, None for infinities and for what is no number."""
    return _worth(bits, 52, 11)


def _worth(bits, fraction_bits, field_bits):
    """The pair of a float whose fraction and exponent field have so many bits."""
    rest, fraction = divmod(bits, 1 << fraction_bits)
    negative, field = divmod(rest, 1 << field_bits)
    sign = -1 if negative == 1 else 1
    centre = (1 << (field_bits - 1)) - 1
    if field == (1 << field_bits) - 1:
        return None
    if field == 0:
        return from_binary(sign * fraction, 1 - centre - fraction_bits)
    return from_binary(sign * ((1 << fraction_bits) + fraction), field - centre - fraction_bits)
