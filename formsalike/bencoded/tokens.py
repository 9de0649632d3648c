"""Numbers and keys of bencode that are taken octet by octet."""

from formsalike.bencoded.marks import LARGEST_EXPONENT, MINUS, SMALL_E, ZERO
from formsalike.counted import Counted, is_digit
from formsalike.numerals import Numeral
from formsalike.utf8 import Utf8


class BencodeNumber:
    """A number whose "i" was taken; its "e" ends it."""

    def __init__(self):
        self.is_done = False
        self._numeral = Numeral()
        # What was taken: nothing "" yet, a "minus", a "zero" that must be the only digit, or other "digits".
        self._state = ""

    def take(self, octet):
        """Take the octet and return True, or return False if it cannot stand here."""
        if octet == SMALL_E:
            self.is_done = self._state in ("zero", "digits")
            return self.is_done and self._numeral.pair()[1] <= LARGEST_EXPONENT
        if octet == MINUS:
            return self._take_minus()
        return is_digit(octet) and self._take_digit(octet - ZERO)

    def _take_minus(self):
        if self._state != "":
            return False
        self._state = "minus"
        self._numeral.negate()
        return True

    def _take_digit(self, digit):
        if self._state == "zero" or (self._state == "minus" and digit == 0):
            return False
        self._state = "zero" if self._state == "" and digit == 0 else "digits"
        self._numeral.add_digit(digit)
        return True

    def leaf(self):
        """The value of the number, if it is done."""
        m, e = self._numeral.pair()
        return ("number", m, e)


class BencodeKey:
    """A key, which is written as bytes whose octets are UTF-8."""

    def __init__(self):
        self.is_done = False
        self._counted = Counted()
        self._utf8 = Utf8()

    def take(self, octet):
        """Take the octet and return True, or return False if it cannot stand here."""
        is_inside = self._counted.has_begun
        if not self._counted.take(octet):
            return False
        if is_inside and not self._utf8.take(octet):
            return False
        self.is_done = self._counted.is_done
        return not self.is_done or not self._utf8.is_open

    def leaf(self):
        """The key as the value of a text, if it is done."""
        return ("text", tuple(self._utf8.points))
