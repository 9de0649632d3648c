"""S-expressions as they are written loosely, event by event."""

from formsalike.lacking import Begun
from formsalike.sexprs.leaves import is_lacking, loose_octets
from formsalike.sexprs.marks import CLOSES, OPENS, SPACE


class SexpLoose:
    """Writes the events of one value as they come."""

    def __init__(self):
        self._begun = Begun()
        # Of each list that is open, whether it has no item yet.
        self._are_empty = []

    def take(self, event):
        """The list of the octets that are written for the event; raises Unwritable."""
        self._begun.note(event, is_lacking)
        if event[0] == "close":
            self._are_empty.pop()
            return [CLOSES]
        before = self._before_item()
        if event[0] == "leaf":
            return before + loose_octets(event[1][1])
        self._are_empty.append(True)
        return before + [OPENS]

    def _before_item(self):
        """What stands before a value: a space if it is an item, but not the first one."""
        if not self._are_empty:
            return []
        if self._are_empty[-1]:
            self._are_empty[-1] = False
            return []
        return [SPACE]
