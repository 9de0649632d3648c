"""The words of JSON that are taken octet by octet."""

from formsalike.values import FALSE, NULL, TRUE

# The words by their first letters.
WORDS = {110: "null", 116: "true", 102: "false"}


class JsonWord:
    """One of the words; its last letter ends it."""

    def __init__(self, word):
        self.is_done = False
        self.can_end = False
        self._word = word
        self._taken = 0

    def take(self, octet):
        """Take the octet and return True, or return False if it cannot stand here."""
        if octet != ord(self._word[self._taken]):
            return False
        self._taken = self._taken + 1
        self.is_done = self._taken == len(self._word)
        return True

    def leaf(self):
        """The value that the word means."""
        if self._word == "null":
            return NULL
        return TRUE if self._word == "true" else FALSE
