"""Bencode as it is scanned, octet by octet."""

from formsalike.bencoded.marks import SMALL_D, SMALL_E, SMALL_I, SMALL_L
from formsalike.bencoded.tokens import BencodeKey, BencodeNumber
from formsalike.counted import Counted
from formsalike.errors import Unreadable
from formsalike.nest import Nest


class BencodeScanner:
    """Takes the octets of a text and gives the events of its value."""

    # Outside of the tokens a "value" is wanted, or the end of the list in which it would stand; a "key" or the
    # end of its map; the value of an "entry"; or "nothing" if the value of the text has ended.

    def __init__(self):
        self._place = 0
        self._wanted = "value"
        self._nest = Nest()
        self._token = None

    def step(self, octet):
        """The events that come with the octet; raises Unreadable."""
        events = []
        if not self._take(octet, events):
            raise Unreadable(self._place)
        self._place = self._place + 1
        return events

    def end(self):
        """The events that come with the end of the text, which are none; raises Unreadable."""
        if self._wanted != "nothing":
            raise Unreadable(self._place)
        return []

    def _take(self, octet, events):
        """Take the octet and return True, or return False if it fails."""
        if self._token is None:
            return self._take_mark(octet, events)
        if not self._token.take(octet):
            return False
        return not self._token.is_done or self._end_token(events)

    def _end_token(self, events):
        """Add the event of the token and return True, or return False if it is a key that its map has."""
        leaf = self._token.leaf()
        self._token = None
        if self._wanted != "key":
            events.append(("leaf", leaf))
            self._end_value()
            return True
        events.append(("key", leaf[1]))
        self._wanted = "entry"
        return self._nest.note_key(leaf[1])

    def _end_value(self):
        """Want what stands behind a value."""
        kind = self._nest.inner()
        self._wanted = "nothing" if kind is None else "key" if kind == "map" else "value"

    def _take_mark(self, octet, events):
        """Take an octet outside of the tokens, or the first one of a token."""
        if octet == SMALL_E:
            return self._close(events)
        if self._wanted == "nothing":
            return False
        if self._wanted == "key":
            return self._begin_counted(BencodeKey(), octet)
        if octet == SMALL_L:
            return self._grow("list", events)
        if octet == SMALL_D:
            return self._grow("map", events)
        if octet == SMALL_I:
            self._token = BencodeNumber()
            return True
        return self._begin_counted(Counted(), octet)

    def _begin_counted(self, token, octet):
        """Begin bytes or a key with the first digit of the count; no other octet can stand there."""
        self._token = token
        return token.take(octet)

    def _grow(self, kind, events):
        """Open a list or map and return True, or return False if too many are open."""
        if not self._nest.grow(kind):
            return False
        events.append(("open", kind))
        self._wanted = "key" if kind == "map" else "value"
        return True

    def _close(self, events):
        """Close the innermost list or map and return True, or return False if none can end here."""
        if self._nest.inner() is None or self._wanted == "entry":
            return False
        self._nest.shrink()
        events.append(("close",))
        self._end_value()
        return True
