"""Numbers of CBOR with a tag, which are taken octet by octet behind the head of the tag."""

from formsalike.cbortree.heads import Head
from formsalike.cbortree.marks import BYTES, DECIMAL_TAG, LARGEST_EXPONENT, LIST, NEGATIVE, NEGATIVE_TAG
from formsalike.cbortree.marks import POSITIVE, POSITIVE_TAG, TAG
from formsalike.cbortree.strings import CborString
from formsalike.decimals import normal
from formsalike.integers import worth_of
from formsalike.values import number


def tagged(tag):
    """A new number with this tag, None if there are none with it."""
    if tag == DECIMAL_TAG:
        return CborDecimal()
    return _tagged_integer(tag)


def _tagged_integer(tag):
    """A new integer with this tag, None if there are none with it."""
    if tag in (POSITIVE_TAG, NEGATIVE_TAG):
        return CborLarge(tag)
    return None


def integer_of(head):
    """The integer that a head alone writes."""
    return -1 - head.argument if head.major == NEGATIVE else head.argument


class CborLarge:
    """A large integer, whose octets are bytes."""

    def __init__(self, tag):
        self.is_done = False
        self._tag = tag
        self._head = Head((BYTES,))
        self._string = None

    def take(self, octet):
        """Take the octet and return True, or return False if it cannot stand here."""
        if not self._take(octet):
            return False
        self.is_done = self._string is not None and self._string.is_done
        return True

    def _take(self, octet):
        if self._string is not None:
            return self._string.take(octet)
        if not self._head.take(octet):
            return False
        if self._head.is_done:
            self._string = CborString(self._head)
        return True

    def integer(self):
        """The integer, if it is done."""
        n = worth_of(self._string.leaf()[1])
        return -1 - n if self._tag == NEGATIVE_TAG else n

    def leaf(self):
        """The value of the integer, if it is done."""
        return number(self.integer())


class CborDecimal:
    """A decimal number: a list of an exponent and a mantissa."""

    def __init__(self):
        self.is_done = False
        # What the head belongs to: the "list", its "exponent" or its "mantissa".
        self._part = "list"
        self._head = Head((LIST,), False)
        self._exponent = 0
        self._large = None
        self._pair = None

    def take(self, octet):
        """Take the octet and return True, or return False if it cannot stand here."""
        if self._large is None:
            return self._head.take(octet) and (not self._head.is_done or self._end_head())
        if not self._large.take(octet):
            return False
        return not self._large.is_done or self._finish(self._large.integer())

    def _end_head(self):
        """Go on behind a head and return True, or return False if it cannot stand here."""
        head = self._head
        if self._part == "list":
            self._part = "exponent"
            self._head = Head((POSITIVE, NEGATIVE))
            return head.argument == 2
        if self._part == "exponent":
            self._part = "mantissa"
            self._head = Head((POSITIVE, NEGATIVE, TAG))
            self._exponent = integer_of(head)
            return True
        if head.major == TAG:
            self._large = _tagged_integer(head.argument)
            return self._large is not None
        return self._finish(integer_of(head))

    def _finish(self, mantissa):
        """End the number and return True, or return False if its exponent is too far from 0."""
        self._pair = normal(mantissa, self._exponent)
        self.is_done = True
        return -LARGEST_EXPONENT <= self._pair[1] <= LARGEST_EXPONENT

    def leaf(self):
        """The value of the number, if it is done."""
        return ("number", self._pair[0], self._pair[1])
