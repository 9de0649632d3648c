"""The contents of elements of BER that are neither lists, maps nor entries, taken octet by octet."""

from formsalike.bertree.decimal import BerDecimal
from formsalike.bertree.tags import BYTES, DECIMAL, INTEGER, LONG_BYTES, LONG_TEXT, TEXT, TRUTH
from formsalike.strings import ByteString, TextString
from formsalike.values import FALSE, NULL, TRUE, number


def contents_of(tag):
    """New contents of an element with this tag."""
    if tag == TRUTH:
        return BerTruth()
    if tag == INTEGER:
        return BerInteger()
    if tag == DECIMAL:
        return BerDecimal()
    if tag in (BYTES, LONG_BYTES):
        return ByteString()
    if tag in (TEXT, LONG_TEXT):
        return TextString()
    return BerNull()


class BerNull:
    """The contents of null, which have no octets."""

    def may_end(self):
        """Whether the octets so far may be all."""
        return True

    def leaf(self):
        """The value of the contents."""
        return NULL


class BerTruth:
    """The octet of a truth."""

    def __init__(self):
        self._value = FALSE

    def take(self, octet):
        """Take the octet and return True."""
        if octet != 0:
            self._value = TRUE
        return True

    def may_end(self):
        """Whether the octets so far may be all."""
        return True

    def leaf(self):
        """The value of the contents."""
        return self._value


class BerInteger:
    """The octets of an integer in two's complement."""

    def __init__(self):
        self._worth = None

    def take(self, octet):
        """Take the octet and return True, or return False if the octet before it is not needed."""
        if self._worth is None:
            self._worth = octet if octet < 128 else octet - 256
            return True
        # Behind a second octet the worth is neither 0 nor -1 any more, so this looks at the first two octets only.
        if self._worth == (0 if octet < 128 else -1):
            return False
        self._worth = self._worth * 256 + octet
        return True

    def may_end(self):
        """Whether the octets so far may be all."""
        return True

    def leaf(self):
        """The value of the contents."""
        return number(self._worth)
