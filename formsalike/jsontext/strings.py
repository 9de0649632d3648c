"""Strings of JSON that are taken octet by octet."""

from formsalike.hexdigits import hex_worth
from formsalike.jsontext.marks import BACKSLASH, QUOTE
from formsalike.utf8 import Utf8, encode

# The code points that a backslash and one octet mean.
SHORT_ESCAPES = {34: 34, 92: 92, 47: 47, 98: 8, 102: 12, 110: 10, 114: 13, 116: 9}

SMALL_U = 117


class JsonEscape:
    """What stands behind a backslash; two code units that mean one code point are one escape."""

    def __init__(self):
        self.point = None
        self._wanted = "letter"
        self._first_unit = None
        self._digits = []

    def take(self, octet):
        """Take the octet and return True, or return False if it cannot stand here."""
        if self._wanted == "letter":
            return self._take_letter(octet)
        if self._wanted == "digit":
            return self._take_digit(octet)
        self._wanted = "letter"
        return octet == BACKSLASH

    def _take_letter(self, octet):
        if octet == SMALL_U:
            self._wanted = "digit"
            return True
        if self._first_unit is not None:
            return False
        self.point = SHORT_ESCAPES.get(octet, None)
        return self.point is not None

    def _take_digit(self, octet):
        digit = hex_worth(octet)
        if digit is None or not self._can_stand(digit):
            return False
        self._digits.append(digit)
        if len(self._digits) == 4:
            self._end_unit()
        return True

    def _can_stand(self, digit):
        """Whether the digit leads to a code unit that can stand here: a second one only behind a first one."""
        if self._digits == [13]:
            return (digit >= 12) == (self._first_unit is not None)
        return self._first_unit is None or len(self._digits) > 0 or digit == 13

    def _end_unit(self):
        unit = 0
        for digit in self._digits:
            unit = unit * 16 + digit
        if self._first_unit is not None:
            self.point = 0x10000 + (self._first_unit - 0xD800) * 1024 + (unit - 0xDC00)
        elif 0xD800 <= unit <= 0xDBFF:
            self._first_unit = unit
            self._digits = []
            self._wanted = "backslash"
        else:
            self.point = unit


class JsonString:
    """A string, whose first quote was taken; the second one ends it."""

    def __init__(self):
        self.is_done = False
        self.can_end = False
        self._utf8 = Utf8()
        self._escape = None

    def take(self, octet):
        """Take the octet and return True, or return False if it cannot stand here."""
        if self._escape is not None:
            return self._take_in_escape(octet)
        if octet >= 32 and octet != QUOTE and octet != BACKSLASH:
            return self._utf8.take(octet)
        if octet < 32 or self._utf8.is_open:
            return False
        if octet == QUOTE:
            self.is_done = True
        else:
            self._escape = JsonEscape()
        return True

    def _take_in_escape(self, octet):
        if not self._escape.take(octet):
            return False
        if self._escape.point is not None:
            self._take_point(self._escape.point)
            self._escape = None
        return True

    def _take_point(self, point):
        for octet in encode((point,)):
            self._utf8.take(octet)

    def leaf(self):
        """The value of the string, if it is done."""
        return ("text", tuple(self._utf8.points))
