"""Code points in UTF-8."""

# The worth of the mark in a first octet, by how many octets follow it.
MARKS = (0, 0xC0, 0xE0, 0xF0)

# The first octets from .. to .., how many octets follow, and the second octets from .. to ..
FIRSTS = (
    (0xC2, 0xDF, 1, 0x80, 0xBF),
    (0xE0, 0xE0, 2, 0xA0, 0xBF),
    (0xE1, 0xEC, 2, 0x80, 0xBF),
    (0xED, 0xED, 2, 0x80, 0x9F),
    (0xEE, 0xEF, 2, 0x80, 0xBF),
    (0xF0, 0xF0, 3, 0x90, 0xBF),
    (0xF1, 0xF3, 3, 0x80, 0xBF),
    (0xF4, 0xF4, 3, 0x80, 0x8F),
)


def encode(points):
    """The list of the octets of code points."""
    octets = []
    for point in points:
        if point < 0x80:
            octets.append(point)
        else:
            octets.extend(_encode_long(point))
    return octets


def _encode_long(point):
    """The octets of a code point that is not ASCII."""
    many = 1 if point < 0x800 else 2 if point < 0x10000 else 3
    octets = [MARKS[many] + (point >> (6 * many))]
    for shift in range(6 * many - 6, -1, -6):
        octets.append(0x80 + (point >> shift) % 64)
    return octets


class Utf8:
    """Octets of UTF-8 that are taken one by one."""

    def __init__(self):
        self.points = []
        self._missing = 0
        self._worth = 0
        self._least = 0x80
        self._most = 0xBF

    @property
    def is_open(self):
        """Whether what was taken is within a character."""
        return self._missing > 0

    def take(self, octet):
        """Take the octet and return True, or return False if it cannot stand here."""
        if self._missing > 0:
            return self._go_on(octet)
        if octet < 0x80:
            self.points.append(octet)
            return True
        return self._begin(octet)

    def _begin(self, octet):
        """Take the first octet of a character that is not ASCII."""
        for first, last, many, least, most in FIRSTS:
            if first <= octet <= last:
                self._missing = many
                self._worth = octet - MARKS[many]
                self._least = least
                self._most = most
                return True
        return False

    def _go_on(self, octet):
        """Take an octet that is not the first one of its character."""
        if not self._least <= octet <= self._most:
            return False
        self._worth = self._worth * 64 + octet - 0x80
        self._least = 0x80
        self._most = 0xBF
        self._missing = self._missing - 1
        if self._missing == 0:
            self.points.append(self._worth)
        return True


def decode(octets):
    """The pair of the code points and None, or of None and the index of the octet that fails."""
    taker = Utf8()
    for index, octet in enumerate(octets):
        if not taker.take(octet):
            return (None, index)
    if taker.is_open:
        return (None, len(octets) - 1)
    return (tuple(taker.points), None)
