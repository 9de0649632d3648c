"""CBOR as it is written loosely, event by event."""

from formsalike.cbortree.leaves import is_lacking, key_octets, leaf_octets
from formsalike.cbortree.marks import BREAK, LONG_LIST, LONG_MAP
from formsalike.lacking import Begun


class CborLoose:
    """Writes the events of one value as they come."""

    def __init__(self):
        self._begun = Begun()

    def take(self, event):
        """The list of the octets that are written for the event; raises Unwritable."""
        self._begun.note(event, is_lacking)
        if event[0] == "open":
            return [LONG_MAP if event[1] == "map" else LONG_LIST]
        if event[0] == "key":
            return key_octets(event[1])
        if event[0] == "leaf":
            return leaf_octets(event[1])
        return [BREAK]
