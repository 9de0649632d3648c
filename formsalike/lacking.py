"""The values that a form lacks; which ones, a function of the form tells for each value by itself."""

from formsalike.errors import Unwritable
from formsalike.values import walk


def first_lacking(value, is_lacking):
    """The index in preorder of the first value in the value, itself included, that is lacking, or None."""
    for index, found in enumerate(walk(value)):
        if is_lacking(found):
            return index
    return None


def check_writable(value, is_lacking):
    """Raise Unwritable if the value or a value in it is lacking."""
    index = first_lacking(value, is_lacking)
    if index is not None:
        raise Unwritable(index)


class Begun:
    """Counts the values that begin in a row of events."""

    def __init__(self):
        self._many = 0

    def note(self, event, is_lacking):
        """Count the value that begins with the event, if one does; raise Unwritable if it is lacking."""
        if event[0] == "leaf":
            self._count(event[1], is_lacking)
        elif event[0] == "open":
            # No form lacks a list or map for what is in it, so an empty one stands for it.
            self._count((event[1], ()), is_lacking)

    def _count(self, value, is_lacking):
        if is_lacking(value):
            raise Unwritable(self._many)
        self._many = self._many + 1
