"""Quoted atoms of S-expressions that are taken octet by octet."""

from formsalike.hexdigits import hex_worth
from formsalike.sexprs.marks import BACKSLASH, FIRST_PLAIN, LAST_PLAIN, LINE_FEED, QUOTE

# The octets that a backslash and one octet mean.
SHORT_ESCAPES = {98: 8, 116: 9, 118: 11, 110: 10, 102: 12, 114: 13, 34: 34, 39: 39, 92: 92, 63: 63}

SMALL_X = 120


class SexpEscape:
    """What stands behind a backslash; it means one octet, or none if the octet is None when it is done."""

    def __init__(self):
        self.is_done = False
        self.octet = None
        self._base = None
        self._missing = 0
        self._worth = 0

    def take(self, octet):
        """Take the octet and return True, or return False if it cannot stand here."""
        if self._base is None:
            return self._take_first(octet)
        digit = hex_worth(octet)
        if digit is None or digit >= self._base:
            return False
        self._take_digit(digit)
        return True

    def _take_first(self, octet):
        """Take the octet that tells which escape it is."""
        if octet == SMALL_X:
            self._base = 16
            self._missing = 2
        elif 48 <= octet <= 51:
            self._base = 8
            self._missing = 3
            self._take_digit(octet - 48)
        else:
            self.octet = SHORT_ESCAPES.get(octet, None)
            self.is_done = octet == LINE_FEED or self.octet is not None
            return self.is_done
        return True

    def _take_digit(self, digit):
        self._worth = self._worth * self._base + digit
        self._missing = self._missing - 1
        if self._missing == 0:
            self.octet = self._worth
            self.is_done = True


class SexpQuoted:
    """A quoted atom whose first quote was taken; the second one ends it."""

    def __init__(self):
        self.is_done = False
        self.can_end = False
        self._octets = []
        self._escape = None

    def take(self, octet):
        """Take the octet and return True, or return False if it cannot stand here."""
        if self._escape is not None:
            return self._take_in_escape(octet)
        if octet == QUOTE:
            self.is_done = True
            return True
        if octet == BACKSLASH:
            self._escape = SexpEscape()
            return True
        self._octets.append(octet)
        return FIRST_PLAIN <= octet <= LAST_PLAIN

    def _take_in_escape(self, octet):
        if not self._escape.take(octet):
            return False
        if self._escape.is_done:
            if self._escape.octet is not None:
                self._octets.append(self._escape.octet)
            self._escape = None
        return True

    def leaf(self):
        """The bytes, if the atom is done."""
        return ("bytes", tuple(self._octets))
