"""The majors of the items of CBOR, the infos and tags that have a meaning, and its limit."""

POSITIVE = 0
NEGATIVE = 1
BYTES = 2
TEXT = 3
LIST = 4
MAP = 5
TAG = 6
SIMPLE = 7
MAJORS = (0, 1, 2, 3, 4, 5, 6, 7)

# What lists and maps are called in events, and the majors that may be of indefinite length.
LEVELS = {4: "list", 5: "map"}
LONG_MAJORS = (2, 3, 4, 5)

# The infos of major 7.
FALSE_INFO = 20
TRUE_INFO = 21
NULL_INFO = 22
HALF_INFO = 25
SINGLE_INFO = 26
SIMPLE_INFOS = (20, 21, 22, 25, 26, 27)

# How many octets write the argument, by the infos that are not the argument themselves.
WIDTHS = {24: 1, 25: 2, 26: 4, 27: 8}
INDEFINITE = 31
BREAK = 255

# The octets that open a list and a map of indefinite length.
LONG_LIST = 0x9F
LONG_MAP = 0xBF

# The tags of large integers from 0 on and below 0, and that of decimal numbers.
POSITIVE_TAG = 2
NEGATIVE_TAG = 3
DECIMAL_TAG = 4

# How far the exponent of a number may be from 0.
LARGEST_EXPONENT = 10 ** 9
