"""Integers from 0 on as rows of octets, the highest one first."""


def wide(n, many):
    """The list of the lowest octets of an integer, so many."""
    return [(n >> shift) & 255 for shift in range(8 * many - 8, -1, -8)]


def shortest(n):
    """The list of the fewest octets that write an integer; none write 0."""
    return wide(n, (n.bit_length() + 7) // 8)


def worth_of(octets):
    """The integer that octets write."""
    worth = 0
    for octet in octets:
        worth = worth * 256 + octet
    return worth
