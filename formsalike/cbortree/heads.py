"""The heads of items of CBOR."""

from formsalike.cbortree.marks import INDEFINITE, LONG_MAJORS, SIMPLE, SIMPLE_INFOS, WIDTHS
from formsalike.integers import wide


def shortest_head(major, argument):
    """The list of the octets of the shortest head."""
    if argument < 24:
        return [major * 32 + argument]
    info = 24
    while argument >> (8 * WIDTHS[info]) > 0:
        info = info + 1
    return [major * 32 + info] + wide(argument, WIDTHS[info])


class Head:
    """A head of one of some majors, taken octet by octet; its argument is None if the length is indefinite."""

    def __init__(self, majors, may_be_long=True):
        self.is_done = False
        self.major = None
        self.info = None
        self.argument = 0
        self._majors = majors
        self._may_be_long = may_be_long
        self._missing = 0

    def take(self, octet):
        """Take the octet and return True, or return False if it cannot stand here."""
        if self.major is None:
            return self._begin(octet)
        self.argument = self.argument * 256 + octet
        self._missing = self._missing - 1
        self.is_done = self._missing == 0
        return True

    def _begin(self, octet):
        """Take the first octet."""
        self.major, self.info = divmod(octet, 32)
        if self.major not in self._majors or not self._can_begin():
            return False
        self._missing = WIDTHS.get(self.info, 0)
        self.is_done = self._missing == 0
        if self.info == INDEFINITE:
            self.argument = None
        elif self.is_done:
            self.argument = self.info
        return True

    def _can_begin(self):
        """Whether the info can stand with the major."""
        if self.major == SIMPLE:
            return self.info in SIMPLE_INFOS
        if self.info == INDEFINITE:
            return self._may_be_long and self.major in LONG_MAJORS
        return self.info <= 27
