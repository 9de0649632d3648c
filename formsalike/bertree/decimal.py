"""Decimal numbers of BER that are taken octet by octet."""

from formsalike.numerals import Numeral

MINUS = 45

# The octets that are no digits, which are "0".
SIGNS = {32: " ", 43: "+", 45: "+", 44: ".", 46: ".", 69: "e", 101: "e"}

# What a sign leads to, behind what stands before it.
STEPS = {
    ("start", " "): "start",
    ("start", "+"): "sign",
    ("start", "0"): "digits",
    ("start", "."): "mark",
    ("sign", "0"): "digits",
    ("sign", "."): "mark",
    ("digits", "0"): "digits",
    ("digits", "."): "fraction",
    ("mark", "0"): "fraction",
    ("fraction", "0"): "fraction",
    ("fraction", "e"): "letter",
    ("letter", "+"): "exponent sign",
    ("letter", "0"): "exponent",
    ("exponent sign", "0"): "exponent",
    ("exponent", "0"): "exponent",
}

# The kinds of decimal numbers, and with what each of them ends.
ENDS = {1: "digits", 2: "fraction", 3: "exponent"}

# The first kind that has the mark, and the one that has the letter "E".
LEAST = {".": 2, "e": 3}


class BerDecimal:
    """The contents of a decimal number."""

    def __init__(self):
        self._kind = None
        self._state = "start"
        self._numeral = Numeral()

    def take(self, octet):
        """Take the octet and return True, or return False if it cannot stand here."""
        if self._kind is None:
            self._kind = octet
            return octet in ENDS
        sign = "0" if 48 <= octet <= 57 else SIGNS.get(octet, "")
        state = STEPS.get((self._state, sign), "")
        if state == "" or self._kind < LEAST.get(sign, 1):
            return False
        self._state = state
        if sign == "0":
            self._collect(octet - 48)
        elif octet == MINUS:
            self._negate()
        return True

    def _collect(self, digit):
        """Give the number a digit."""
        if self._state == "digits":
            self._numeral.add_digit(digit)
        elif self._state == "fraction":
            self._numeral.add_fraction_digit(digit)
        else:
            self._numeral.add_exponent_digit(digit)

    def _negate(self):
        """Make the number or its exponent a negative one."""
        if self._state == "sign":
            self._numeral.negate()
        else:
            self._numeral.negate_exponent()

    def may_end(self):
        """Whether the contents can end here."""
        return self._kind is None or self._state == ENDS[self._kind]

    def leaf(self):
        """The value of the number, if it can end here."""
        m, e = self._numeral.pair()
        return ("number", m, e)
