"""Decimal numbers that are taken digit by digit."""

from formsalike.decimals import normal


class Numeral:
    """A number from its digits, those of its fraction and those of its exponent."""

    def __init__(self):
        self._sign = 1
        self._worth = 0
        self._scale = 0
        self._exponent_sign = 1
        self._exponent = 0

    def negate(self):
        """Make the number a negative one."""
        self._sign = -1

    def negate_exponent(self):
        """Make the exponent a negative one."""
        self._exponent_sign = -1

    def add_digit(self, digit):
        """Put a digit behind the digits before the fraction."""
        self._worth = self._worth * 10 + digit

    def add_fraction_digit(self, digit):
        """Put a digit behind those of the fraction."""
        self._worth = self._worth * 10 + digit
        self._scale = self._scale + 1

    def add_exponent_digit(self, digit):
        """Put a digit behind those of the exponent."""
        self._exponent = self._exponent * 10 + digit

    def pair(self):
        """The pair of the normal form."""
        return normal(self._sign * self._worth, self._exponent_sign * self._exponent - self._scale)
