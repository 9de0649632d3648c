"""The tags of elements of BER."""

END = 0
TRUTH = 1
INTEGER = 2
BYTES = 4
NULL_TAG = 5
DECIMAL = 9
TEXT = 12
LONG_BYTES = 36
LONG_TEXT = 44
LIST = 48
MAP = 49

# The tags whose contents are elements, so that their length may be indefinite.
CONSTRUCTED = (36, 44, 48, 49)

# What such elements are, if they do not stand as entries.
KINDS = {36: "string", 44: "string", 48: "list", 49: "map"}

# The tags that can stand, by what an element is wanted as.
ROLES = {
    "value": (1, 2, 4, 5, 9, 12, 36, 44, 48, 49),
    "entry": (48,),
    "key": (12, 44),
    "segment": (4,),
    "nothing": (),
}
