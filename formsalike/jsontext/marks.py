"""The octets that have a meaning of their own in JSON."""

WHITESPACE = (32, 9, 10, 13)
QUOTE = 34
BACKSLASH = 92
COMMA = 44
COLON = 58
MINUS = 45
LIST_OPENS = 91
LIST_CLOSES = 93
MAP_OPENS = 123
MAP_CLOSES = 125
