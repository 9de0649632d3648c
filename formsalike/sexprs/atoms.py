"""Atoms of S-expressions that are taken octet by octet: tokens, hexadecimal ones and those in base64."""

from formsalike.base64 import Base64
from formsalike.counted import is_digit
from formsalike.hexdigits import hex_worth
from formsalike.sexprs.marks import BAR, HASH, TOKEN_MARKS, WHITESPACE


def begins_token(octet):
    """Whether a token can begin with the octet."""
    return 65 <= octet <= 90 or 97 <= octet <= 122 or octet in TOKEN_MARKS


def goes_on_token(octet):
    """Whether the octet can stand behind the first one of a token."""
    return begins_token(octet) or is_digit(octet)


class SexpToken:
    """An atom as a token, whose first octet is taken first; no octet of its own ends it."""

    def __init__(self):
        self.is_done = False
        self.can_end = True
        self._octets = []

    def take(self, octet):
        """Take the octet and return True, or return False if it is none of the token."""
        if not goes_on_token(octet):
            return False
        self._octets.append(octet)
        return True

    def leaf(self):
        """The bytes."""
        return ("bytes", tuple(self._octets))


class SexpHex:
    """A hexadecimal atom whose first "#" was taken; the second one ends it."""

    def __init__(self):
        self.is_done = False
        self.can_end = False
        self._octets = []
        self._first = None

    def take(self, octet):
        """Take the octet and return True, or return False if it cannot stand here."""
        if octet in WHITESPACE:
            return True
        if octet == HASH:
            self.is_done = self._first is None
            return self.is_done
        worth = hex_worth(octet)
        if worth is None:
            return False
        self._take_digit(worth)
        return True

    def _take_digit(self, worth):
        if self._first is None:
            self._first = worth
            return
        self._octets.append(self._first * 16 + worth)
        self._first = None

    def leaf(self):
        """The bytes, if the atom is done."""
        return ("bytes", tuple(self._octets))


class SexpBase64:
    """An atom in base64 whose first "|" was taken; the second one ends it."""

    def __init__(self):
        self.is_done = False
        self.can_end = False
        self._base64 = Base64()

    def take(self, octet):
        """Take the octet and return True, or return False if it cannot stand here."""
        if octet in WHITESPACE:
            return True
        if octet == BAR:
            self.is_done = self._base64.is_whole
            return self.is_done
        return self._base64.take(octet)

    def leaf(self):
        """The bytes, if the atom is done."""
        return ("bytes", tuple(self._base64.octets))
