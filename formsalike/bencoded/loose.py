"""Bencode as it is written loosely, event by event."""

from formsalike.bencoded.leaves import is_lacking, key_octets, leaf_octets
from formsalike.bencoded.marks import SMALL_D, SMALL_E, SMALL_L
from formsalike.lacking import Begun


class BencodeLoose:
    """Writes the events of one value as they come."""

    def __init__(self):
        self._begun = Begun()

    def take(self, event):
        """The list of the octets that are written for the event; raises Unwritable."""
        self._begun.note(event, is_lacking)
        if event[0] == "open":
            return [SMALL_D if event[1] == "map" else SMALL_L]
        if event[0] == "key":
            return key_octets(event[1])
        if event[0] == "leaf":
            return leaf_octets(event[1])
        return [SMALL_E]
