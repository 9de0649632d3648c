"""Numbers of JSON that are taken octet by octet."""

from formsalike.jsontext.marks import MINUS
from formsalike.numerals import Numeral

# The octets that are no digits from 1 to 9, which are "1".
SIGNS = {48: "0", 45: "-", 43: "+", 46: ".", 101: "e", 69: "e"}

# What a sign leads to, behind what stands before it.
STEPS = {
    ("", "-"): "minus",
    ("", "0"): "zero",
    ("", "1"): "digits",
    ("minus", "0"): "zero",
    ("minus", "1"): "digits",
    ("zero", "."): "point",
    ("zero", "e"): "mark",
    ("digits", "0"): "digits",
    ("digits", "1"): "digits",
    ("digits", "."): "point",
    ("digits", "e"): "mark",
    ("point", "0"): "fraction",
    ("point", "1"): "fraction",
    ("fraction", "0"): "fraction",
    ("fraction", "1"): "fraction",
    ("fraction", "e"): "mark",
    ("mark", "-"): "sign",
    ("mark", "+"): "sign",
    ("mark", "0"): "exponent",
    ("mark", "1"): "exponent",
    ("sign", "0"): "exponent",
    ("sign", "1"): "exponent",
    ("exponent", "0"): "exponent",
    ("exponent", "1"): "exponent",
}

ENDS = ("zero", "digits", "fraction", "exponent")


class JsonNumber:
    """A number; no octet of its own ends it, so it is never done by itself."""

    def __init__(self):
        self.is_done = False
        self.can_end = False
        self._state = ""
        self._numeral = Numeral()

    def take(self, octet):
        """Take the octet and return True, or return False if it cannot stand here."""
        sign = "1" if 49 <= octet <= 57 else SIGNS.get(octet, "")
        state = STEPS.get((self._state, sign), "")
        if state == "":
            return False
        self._state = state
        self.can_end = state in ENDS
        self._collect(octet)
        return True

    def _collect(self, octet):
        """Give the number what the octet says of it."""
        if self._state in ("zero", "digits"):
            self._numeral.add_digit(octet - 48)
        elif self._state == "fraction":
            self._numeral.add_fraction_digit(octet - 48)
        elif self._state == "exponent":
            self._numeral.add_exponent_digit(octet - 48)
        elif self._state == "minus":
            self._numeral.negate()
        elif self._state == "sign" and octet == MINUS:
            self._numeral.negate_exponent()

    def leaf(self):
        """The value of the number, if it can end here."""
        m, e = self._numeral.pair()
        return ("number", m, e)
