"""CBOR as it is scanned, octet by octet."""

from formsalike.cbortree.heads import Head
from formsalike.cbortree.marks import BREAK, BYTES, LEVELS, MAJORS, TAG, TEXT
from formsalike.cbortree.numbers import tagged
from formsalike.cbortree.simple import value_of_head
from formsalike.cbortree.strings import CborString
from formsalike.errors import Unreadable
from formsalike.nest import Nest


class CborScanner:
    """Takes the octets of a text and gives the events of its value."""

    def __init__(self):
        self._place = 0
        self._is_over = False
        self._wants_key = False
        self._nest = Nest()
        # Of each list and map that is open, how many items or entries are missing; None if a break ends it.
        self._missing = []
        self._head = None
        self._content = None

    def step(self, octet):
        """The events that come with the octet; raises Unreadable."""
        events = []
        if self._is_over or not self._take(octet, events):
            raise Unreadable(self._place)
        self._place = self._place + 1
        return events

    def end(self):
        """The events that come with the end of the text, which are none; raises Unreadable."""
        if not self._is_over:
            raise Unreadable(self._place)
        return []

    def _take(self, octet, events):
        """Take the octet and return True, or return False if it fails."""
        if self._content is not None:
            return self._content.take(octet) and self._go_on(events)
        if self._head is None:
            if octet == BREAK:
                return self._take_break(events)
            self._head = Head((TEXT,) if self._wants_key else MAJORS)
            if octet // 32 in LEVELS and not self._nest.grow(LEVELS[octet // 32]):
                return False
        if not self._head.take(octet):
            return False
        return not self._head.is_done or self._end_head(events)

    def _take_break(self, events):
        """End the innermost list or map and return True, or return False if no break can stand here."""
        if not self._missing or self._missing[-1] is not None:
            return False
        if self._nest.inner() == "map" and not self._wants_key:
            return False
        self._close(events)
        return True

    def _end_head(self, events):
        """Go on behind a head and return True, or return False if its last octet fails."""
        head = self._head
        self._head = None
        if head.major in LEVELS:
            self._begin_level(LEVELS[head.major], head.argument, events)
            return True
        if head.major in (BYTES, TEXT):
            self._content = CborString(head)
        elif head.major == TAG:
            self._content = tagged(head.argument)
        else:
            leaf = value_of_head(head)
            return leaf is not None and self._end_leaf(leaf, events)
        return self._content is not None and self._go_on(events)

    def _begin_level(self, kind, many, events):
        """Open a list or map behind its head, and close it if it is empty."""
        events.append(("open", kind))
        self._missing.append(many)
        self._wants_key = kind == "map"
        if many == 0:
            self._close(events)

    def _go_on(self, events):
        """End the content if it is done; return False if this makes an octet fail."""
        if not self._content.is_done:
            return True
        leaf = self._content.leaf()
        self._content = None
        return self._end_leaf(leaf, events)

    def _end_leaf(self, leaf, events):
        """Add the event of a leaf or key and return True, or return False if its map has the key."""
        if self._wants_key:
            self._wants_key = False
            events.append(("key", leaf[1]))
            return self._nest.note_key(leaf[1])
        events.append(("leaf", leaf))
        self._end_value(events)
        return True

    def _end_value(self, events):
        """Close what ends with this value, or want what stands behind it."""
        if not self._missing:
            self._is_over = True
            return
        self._wants_key = self._nest.inner() == "map"
        if self._missing[-1] is not None:
            self._missing[-1] = self._missing[-1] - 1
            if self._missing[-1] == 0:
                self._close(events)

    def _close(self, events):
        """Close the innermost list or map."""
        self._missing.pop()
        self._nest.shrink()
        events.append(("close",))
        self._end_value(events)
