"""The octets that have a meaning of their own in S-expressions."""

SPACE = 32
WHITESPACE = (32, 9, 10, 11, 12, 13)
OPENS = 40
CLOSES = 41
QUOTE = 34
BACKSLASH = 92
HASH = 35
BAR = 124
LINE_FEED = 10

# The octets from .. to .. that can stand in a quoted atom, but for the quote and the backslash.
FIRST_PLAIN = 32
LAST_PLAIN = 126

# The octets other than letters that can begin a token: - . / _ : * + =
TOKEN_MARKS = (45, 46, 47, 95, 58, 42, 43, 61)
