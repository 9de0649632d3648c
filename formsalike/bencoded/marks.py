"""The octets that have a meaning of their own in bencode, and its limit."""

ZERO = 48
MINUS = 45
SMALL_D = 100
SMALL_E = 101
SMALL_I = 105
SMALL_L = 108

LARGEST_EXPONENT = 800
