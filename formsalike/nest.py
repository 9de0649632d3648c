"""The lists and maps that are open while octets are scanned."""

from formsalike.values import DEEPEST


class Nest:
    """The lists and maps that are open, with the keys of each map."""

    def __init__(self):
        self._levels = []

    def inner(self):
        """The kind of the innermost one, "list" or "map", None if none is open."""
        if not self._levels:
            return None
        return self._levels[-1][0]

    def grow(self, kind):
        """Open a list or map and return True, or return False if too many are open."""
        if len(self._levels) == DEEPEST:
            return False
        self._levels.append((kind, {}))
        return True

    def shrink(self):
        """Close the innermost one."""
        self._levels.pop()

    def note_key(self, key):
        """Note a key of the innermost map and return True, or return False if the map has it."""
        keys = self._levels[-1][1]
        if key in keys:
            return False
        keys[key] = True
        return True
