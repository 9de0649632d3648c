"""S-expressions as they are scanned, octet by octet."""

from formsalike.counted import Counted, is_digit
from formsalike.errors import Unreadable
from formsalike.nest import Nest
from formsalike.sexprs.atoms import SexpBase64, SexpHex, SexpToken, begins_token
from formsalike.sexprs.marks import BAR, CLOSES, HASH, OPENS, QUOTE, WHITESPACE
from formsalike.sexprs.quoted import SexpQuoted


def _atom_of(octet):
    """A new atom that has taken its first octet, None if none begins with it."""
    if octet == QUOTE:
        return SexpQuoted()
    if octet == HASH:
        return SexpHex()
    if octet == BAR:
        return SexpBase64()
    if not is_digit(octet) and not begins_token(octet):
        return None
    atom = Counted() if is_digit(octet) else SexpToken()
    atom.take(octet)
    return atom


class SexpScanner:
    """Takes the octets of a text and gives the events of its value."""

    def __init__(self):
        self._place = 0
        self._is_over = False
        self._nest = Nest()
        self._atom = None

    def step(self, octet):
        """The events that come with the octet; raises Unreadable."""
        events = []
        if not self._go_on(octet, events) and not self._take_mark(octet, events):
            raise Unreadable(self._place)
        self._place = self._place + 1
        return events

    def end(self):
        """The events that come with the end of the text; raises Unreadable."""
        events = []
        if self._atom is not None and self._atom.can_end:
            self._end_atom(events)
        if not self._is_over:
            raise Unreadable(self._place)
        return events

    def _go_on(self, octet, events):
        """Whether the octet belongs to the atom that was begun; if it ends a token, it does not."""
        if self._atom is None:
            return False
        belongs = self._atom.take(octet)
        if not belongs and not self._atom.can_end:
            raise Unreadable(self._place)
        if not belongs or self._atom.is_done:
            self._end_atom(events)
        return belongs

    def _end_atom(self, events):
        """Add the event of the atom."""
        events.append(("leaf", self._atom.leaf()))
        self._atom = None
        self._end_value()

    def _end_value(self):
        """The text is over behind a value that no list holds, but for whitespace."""
        self._is_over = self._nest.inner() is None

    def _take_mark(self, octet, events):
        """Take an octet outside of the atoms, or the first one of an atom, and return True, or return False."""
        if octet in WHITESPACE:
            return True
        if self._is_over:
            return False
        if octet == OPENS:
            events.append(("open", "list"))
            return self._nest.grow("list")
        if octet == CLOSES:
            return self._close(events)
        self._atom = _atom_of(octet)
        return self._atom is not None

    def _close(self, events):
        """Close the innermost list and return True, or return False if none is open."""
        if self._nest.inner() is None:
            return False
        self._nest.shrink()
        events.append(("close",))
        self._end_value()
        return True
