"""Octets behind their count in decimal digits and a colon."""

from formsalike.decimals import digits_of

ZERO = 48
NINE = 57
COLON = 58


def is_digit(octet):
    """Whether the octet is a decimal digit."""
    return ZERO <= octet <= NINE


def in_ascii(string):
    """The list of the octets of a string of ASCII characters."""
    return [ord(character) for character in string]


def with_count(octets):
    """The list of the count of some octets, the colon and the octets."""
    return in_ascii(digits_of(len(octets))) + [COLON] + list(octets)


class Counted:
    """A count, a colon and as many octets, which are taken one by one."""

    def __init__(self):
        self.is_done = False
        self.can_end = False
        self.has_begun = False
        self.octets = []
        self._missing = None

    def take(self, octet):
        """Take the octet and return True, or return False if it cannot stand here."""
        if not self.has_begun:
            return self._take_in_count(octet)
        self.octets.append(octet)
        self._missing = self._missing - 1
        self.is_done = self._missing == 0
        return True

    def _take_in_count(self, octet):
        """Take a digit of the count, or the colon, with which the octets have begun."""
        if octet == COLON and self._missing is not None:
            self.has_begun = True
            self.is_done = self._missing == 0
            return True
        if not is_digit(octet) or self._missing == 0:
            return False
        self._missing = (self._missing or 0) * 10 + octet - ZERO
        return True

    def leaf(self):
        """The bytes, if all octets were taken."""
        return ("bytes", tuple(self.octets))
