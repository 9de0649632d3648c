"""BER as it is scanned, octet by octet."""

from formsalike.bertree.contents import contents_of
from formsalike.bertree.headers import BerHeader
from formsalike.bertree.holders import Holder
from formsalike.bertree.tags import CONSTRUCTED, END, KINDS, LIST, MAP, ROLES
from formsalike.errors import Unreadable
from formsalike.nest import Nest


class BerScanner:
    """Takes the octets of a text and gives the events of its value."""

    def __init__(self):
        self._place = 0
        self._is_over = False
        self._nest = Nest()
        self._holders = []
        # Of the element that is taken: its tag and length, or the contents if no elements are in them.
        self._header = None
        self._contents = None
        self._missing = 0
        self._wants_zero = False

    def step(self, octet):
        """The events that come with the octet; raises Unreadable."""
        events = []
        if self._is_over or self._place == self._limit() or not self._take(octet, events):
            raise Unreadable(self._place)
        self._place = self._place + 1
        return events

    def end(self):
        """The events that come with the end of the text, which are none; raises Unreadable."""
        if not self._is_over:
            raise Unreadable(self._place)
        return []

    def _limit(self):
        """The place behind the innermost definite contents, None if there are none."""
        return self._holders[-1].limit if self._holders else None

    def _role(self):
        """As what an element is wanted."""
        return self._holders[-1].wanted if self._holders else "value"

    def _take(self, octet, events):
        """Take the octet and return True, or return False if it fails."""
        if self._contents is not None:
            return self._take_in_contents(octet, events)
        if self._header is not None:
            return self._header.take(octet) and (not self._header.is_done or self._end_header(events))
        if self._wants_zero:
            self._wants_zero = False
            return octet == END and self._end_holder(events)
        if octet == END:
            return self._take_zero()
        return self._begin(octet)

    def _take_zero(self):
        """Take the first zero of an end and return True, or return False if none can stand here."""
        holder = self._holders[-1] if self._holders else None
        self._wants_zero = holder is not None and holder.ends_at is None and holder.may_end()
        return self._wants_zero

    def _begin(self, tag):
        """Begin an element with its tag and return True, or return False if it cannot stand here."""
        role = self._role()
        self._header = BerHeader(tag)
        if tag not in ROLES[role]:
            return False
        if role != "value" or tag not in (LIST, MAP):
            return True
        return self._nest.grow(KINDS[tag])

    def _end_header(self, events):
        """Go on behind a tag and length and return True, or return False if the length is too large."""
        tag, length = self._header.tag, self._header.length
        self._header = None
        limit = self._limit()
        ends_at = None
        if length is not None:
            ends_at = self._place + 1 + length
            if limit is not None and ends_at > limit:
                return False
            limit = ends_at
        if tag in CONSTRUCTED:
            return self._begin_holder(tag, ends_at, limit, events)
        self._contents = self._holders[-1].string if self._role() == "segment" else contents_of(tag)
        self._missing = length
        return length > 0 or self._end_contents(events)

    def _begin_holder(self, tag, ends_at, limit, events):
        """Go on into an element that holds others."""
        kind = "entry" if self._role() == "entry" else KINDS[tag]
        holder = Holder(kind, ends_at, limit, contents_of(tag) if kind == "string" else None)
        self._holders.append(holder)
        if kind in ("list", "map"):
            events.append(("open", kind))
        return self._end_ended(events)

    def _take_in_contents(self, octet, events):
        self._missing = self._missing - 1
        if not self._contents.take(octet):
            return False
        return self._missing > 0 or self._end_contents(events)

    def _end_contents(self, events):
        """End the contents and return True, or return False if they cannot end here."""
        contents = self._contents
        self._contents = None
        if self._role() == "segment":
            return self._end_ended(events)
        return self._end_leaf(contents, events)

    def _end_leaf(self, contents, events):
        """Add the event of a leaf or key and return True, or return False if it cannot stand or end here."""
        if not contents.may_end():
            return False
        leaf = contents.leaf()
        if self._role() != "key":
            events.append(("leaf", leaf))
        elif self._nest.note_key(leaf[1]):
            events.append(("key", leaf[1]))
        else:
            return False
        return self._end_element(events)

    def _end_element(self, events):
        """Go on behind an element; return False if this makes an octet fail."""
        if not self._holders:
            self._is_over = True
            return True
        self._holders[-1].go_on()
        return self._end_ended(events)

    def _end_ended(self, events):
        """End the innermost holder if its contents end with this octet; return False if they cannot end here."""
        holder = self._holders[-1]
        if holder.ends_at != self._place + 1 or not holder.may_end():
            return True
        return self._end_holder(events)

    def _end_holder(self, events):
        """End the innermost holder and return True, or return False if it cannot end here."""
        holder = self._holders.pop()
        if holder.kind == "string":
            return self._end_leaf(holder.string, events)
        if holder.kind != "entry":
            self._nest.shrink()
            events.append(("close",))
        return self._end_element(events)
