"""Integers as rows of octets, the highest one first."""


def wide(n, many):
    """The list of the lowest octets of an integer, so many."""
    return [(n >> shift) & 255 for shift in range(8 * many - 8, -1, -8)]


def shortest(n):
    """The list of the fewest octets that write an integer from 0 on; none write 0."""
    return wide(n, (n.bit_length() + 7) // 8)


def shortest_signed(n):
    """The list of the fewest octets that write an integer in two's complement, at least one."""
    # The highest bit tells the sign, so 7 bits are left of the highest octet.
    bits = n.bit_length() if n >= 0 else (-1 - n).bit_length()
    return wide(n, bits // 8 + 1)


def worth_of(octets):
    """The integer from 0 on that octets write."""
    worth = 0
    for octet in octets:
        worth = worth * 256 + octet
    return worth
