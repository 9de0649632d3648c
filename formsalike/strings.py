"""The octets of bytes and of texts, taken one by one."""

from formsalike.utf8 import Utf8


class ByteString:
    """The octets of bytes."""

    def __init__(self):
        self._octets = []

    def take(self, octet):
        """Take the octet and return True."""
        self._octets.append(octet)
        return True

    def may_end(self):
        """Whether the octets so far may be all."""
        return True

    def leaf(self):
        """The value of the bytes."""
        return ("bytes", tuple(self._octets))


class TextString:
    """The octets of a text in UTF-8."""

    def __init__(self):
        self._utf8 = Utf8()

    def take(self, octet):
        """Take the octet and return True, or return False if it cannot stand here."""
        return self._utf8.take(octet)

    def may_end(self):
        """Whether the octets so far may be all."""
        return not self._utf8.is_open

    def leaf(self):
        """The value of the text."""
        return ("text", tuple(self._utf8.points))
