"""Bytes and texts of CBOR that are taken octet by octet."""

from formsalike.cbortree.heads import Head
from formsalike.cbortree.marks import BREAK, BYTES
from formsalike.strings import ByteString, TextString


class CborString:
    """Bytes or a text behind the head, of definite length or in chunks with a break."""

    def __init__(self, head):
        self._major = head.major
        self._missing = head.argument or 0
        self._inside = ByteString() if head.major == BYTES else TextString()
        self._is_chunked = head.argument is None
        self._chunk_head = None
        self.is_done = head.argument == 0

    def take(self, octet):
        """Take the octet and return True, or return False if it cannot stand here."""
        if self._missing > 0:
            return self._take_content(octet)
        if self._chunk_head is None:
            return self._take_break_or_begin(octet)
        return self._take_in_head(octet)

    def _take_content(self, octet):
        self._missing = self._missing - 1
        if not self._inside.take(octet):
            return False
        if self._missing > 0:
            return True
        self.is_done = not self._is_chunked
        return self._inside.may_end()

    def _take_break_or_begin(self, octet):
        """Take the break behind the chunks, or the first octet of a chunk."""
        if octet == BREAK:
            self.is_done = True
            return True
        self._chunk_head = Head((self._major,), False)
        return self._take_in_head(octet)

    def _take_in_head(self, octet):
        """Take an octet of the head of a chunk."""
        if not self._chunk_head.take(octet):
            return False
        if self._chunk_head.is_done:
            self._missing = self._chunk_head.argument
            self._chunk_head = None
        return True

    def leaf(self):
        """The value, if it is done."""
        return self._inside.leaf()
