"""The tags and lengths of elements of BER."""

from formsalike.bertree.tags import CONSTRUCTED, INTEGER, NULL_TAG, TRUTH

INDEFINITE = 128
LONGEST = 254


class BerHeader:
    """The tag of an element and its length, which is taken octet by octet; it is None if it is indefinite."""

    def __init__(self, tag):
        self.is_done = False
        self.tag = tag
        self.length = 0
        self._missing = None

    def take(self, octet):
        """Take the octet and return True, or return False if it cannot stand here."""
        if self._missing is None:
            return self._begin(octet)
        self.length = self.length * 256 + octet
        self._missing = self._missing - 1
        return self._missing > 0 or self._end()

    def _begin(self, octet):
        """Take the first octet of the length."""
        if octet > LONGEST:
            return False
        if octet > INDEFINITE:
            self._missing = octet - INDEFINITE
            return True
        self.length = None if octet == INDEFINITE else octet
        return self._end()

    def _end(self):
        """End the length and return True, or return False if it does not fit the tag."""
        self.is_done = True
        if self.length is None:
            return self.tag in CONSTRUCTED
        if self.tag == TRUTH:
            return self.length == 1
        if self.tag == NULL_TAG:
            return self.length == 0
        return self.tag != INTEGER or self.length > 0
