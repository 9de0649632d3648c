"""JSON as it is scanned, octet by octet."""

from formsalike.errors import Unreadable
from formsalike.jsontext.marks import COLON, COMMA, LIST_CLOSES, LIST_OPENS, MAP_CLOSES, MAP_OPENS, QUOTE, WHITESPACE
from formsalike.jsontext.numeral import JsonNumber
from formsalike.jsontext.strings import JsonString
from formsalike.jsontext.words import WORDS, JsonWord
from formsalike.nest import Nest


def _token_of(octet):
    """A new token that has taken its first octet, None if none begins with it."""
    if octet == QUOTE:
        return JsonString()
    token = JsonWord(WORDS[octet]) if octet in WORDS else JsonNumber()
    return token if token.take(octet) else None


class JsonScanner:
    """Takes the octets of a text and gives the events of its value."""

    # What is wanted outside of the tokens: a "value"; an "item" or the end of a list that has none yet; an
    # "entry" or the end of a map that has none yet; the "key" of a further entry; the "colon" behind a key;
    # or, behind a value, what comes "next": a comma, the end of a list or map, or the end of the text.

    def __init__(self):
        self._place = 0
        self._wanted = "value"
        self._nest = Nest()
        self._token = None
        self._is_key = False

    def step(self, octet):
        """The events that come with the octet; raises Unreadable."""
        events = []
        if not self._go_on(octet, events):
            self._take_mark(octet, events)
        self._place = self._place + 1
        return events

    def end(self):
        """The events that come with the end of the text; raises Unreadable."""
        events = []
        if self._token is not None and self._token.can_end:
            self._end_token(events)
        if self._wanted != "next" or self._nest.inner() is not None:
            raise Unreadable(self._place)
        return events

    def _go_on(self, octet, events):
        """Whether the octet belongs to the token that was begun; if it ends a number, it does not."""
        if self._token is None:
            return False
        belongs = self._token.take(octet)
        if not belongs and not self._token.can_end:
            raise Unreadable(self._place)
        if not belongs or self._token.is_done:
            self._end_token(events)
        return belongs

    def _end_token(self, events):
        """Add the event of the token."""
        leaf = self._token.leaf()
        self._token = None
        if not self._is_key:
            events.append(("leaf", leaf))
            self._wanted = "next"
            return
        if not self._nest.note_key(leaf[1]):
            raise Unreadable(self._place)
        events.append(("key", leaf[1]))
        self._wanted = "colon"

    def _take_mark(self, octet, events):
        """Take an octet outside of the tokens, or the first one of a token."""
        if octet in WHITESPACE:
            return
        if self._wanted == "colon" and octet == COLON:
            self._wanted = "value"
        elif self._wanted == "next" and octet == COMMA and self._nest.inner() is not None:
            self._wanted = "key" if self._nest.inner() == "map" else "value"
        elif not self._begin(octet, events) and not self._close(octet, events):
            raise Unreadable(self._place)

    def _begin(self, octet, events):
        """Begin a key or a value and return True, or return False if none can begin here with the octet."""
        if self._wanted in ("key", "entry"):
            return octet == QUOTE and self._begin_token(octet, True)
        if self._wanted not in ("value", "item"):
            return False
        if octet == LIST_OPENS:
            return self._open_level("list", "item", events)
        if octet == MAP_OPENS:
            return self._open_level("map", "entry", events)
        return self._begin_token(octet, False)

    def _begin_token(self, octet, is_key):
        self._token = _token_of(octet)
        self._is_key = is_key
        return self._token is not None

    def _open_level(self, kind, wanted, events):
        """Open a list or map and return True, or return False if too many are open."""
        if not self._nest.grow(kind):
            return False
        events.append(("open", kind))
        self._wanted = wanted
        return True

    def _close(self, octet, events):
        """Close the innermost list or map and return True, or return False if the octet does not do so here."""
        kind = self._nest.inner()
        ends_list = octet == LIST_CLOSES and kind == "list" and self._wanted in ("item", "next")
        ends_map = octet == MAP_CLOSES and kind == "map" and self._wanted in ("entry", "next")
        if not ends_list and not ends_map:
            return False
        self._nest.shrink()
        events.append(("close",))
        self._wanted = "next"
        return True
