"""BER as it is written loosely, event by event."""

from formsalike.bertree.headers import INDEFINITE
from formsalike.bertree.leaves import key_octets, leaf_octets
from formsalike.bertree.tags import END, LIST, MAP


class BerLoose:
    """Writes the events of one value as they come."""

    def __init__(self):
        # The kinds of the lists and maps that are open.
        self._kinds = []

    def take(self, event):
        """The list of the octets that are written for the event."""
        if event[0] == "open":
            self._kinds.append(event[1])
            return [MAP if event[1] == "map" else LIST, INDEFINITE]
        if event[0] == "key":
            return [LIST, INDEFINITE] + key_octets(event[1])
        if event[0] == "leaf":
            return leaf_octets(event[1]) + self._end_of_entry()
        self._kinds.pop()
        return [END, END] + self._end_of_entry()

    def _end_of_entry(self):
        """What stands behind a value: the end of its entry, if it is the value of one."""
        return [END, END] if self._kinds and self._kinds[-1] == "map" else []
