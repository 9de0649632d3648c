"""JSON as it is written loosely, event by event."""

from formsalike.counted import in_ascii
from formsalike.jsontext.leaves import is_lacking, leaf_octets, string_octets
from formsalike.jsontext.marks import LIST_CLOSES, LIST_OPENS, MAP_CLOSES, MAP_OPENS
from formsalike.lacking import Begun


class JsonLoose:
    """Writes the events of one value as they come."""

    def __init__(self):
        self._begun = Begun()
        # Of each list and map that is open: its kind, and whether it has no item or entry yet.
        self._kinds = []
        self._are_empty = []

    def take(self, event):
        """The list of the octets that are written for the event; raises Unwritable."""
        self._begun.note(event, is_lacking)
        if event[0] == "close":
            return self._close()
        if event[0] == "key":
            return self._comma() + string_octets(event[1])
        before = self._before_value()
        if event[0] == "open":
            return before + self._open_level(event[1])
        return before + leaf_octets(event[1])

    def _open_level(self, kind):
        self._kinds.append(kind)
        self._are_empty.append(True)
        return [MAP_OPENS if kind == "map" else LIST_OPENS]

    def _close(self):
        self._are_empty.pop()
        return [MAP_CLOSES if self._kinds.pop() == "map" else LIST_CLOSES]

    def _before_value(self):
        """What stands before a value: nothing, or what separates it from its key or from the item before it."""
        if not self._kinds:
            return []
        return in_ascii(": ") if self._kinds[-1] == "map" else self._comma()

    def _comma(self):
        """What stands before an item or entry: nothing if it is the first one."""
        if self._are_empty[-1]:
            self._are_empty[-1] = False
            return []
        return in_ascii(", ")
