"""Octets in base64."""

PAD = 61
DIGITS = "ABCDEFGHIJKLMNOPQRSTUVWXYZabcdefghijklmnopqrstuvwxyz0123456789+/"

# The rows of digits that follow each other in ASCII: the octets from .. to .., and the worth of the first one.
ROWS = ((65, 90, 0), (97, 122, 26), (48, 57, 52), (43, 43, 62), (47, 47, 63))


def _worth_of(octet):
    """The worth of a digit, None if the octet is no digit."""
    for first, last, least in ROWS:
        if first <= octet <= last:
            return least + octet - first
    return None


class Base64:
    """Octets of base64 that are taken one by one."""

    def __init__(self):
        self.octets = []
        self._digits = 0
        self._pads = 0
        self._rest = 0

    @property
    def is_whole(self):
        """Whether what was taken may be whole."""
        return (self._digits + self._pads) % 4 == 0

    def take(self, octet):
        """Take the octet and return True, or return False if it cannot stand here."""
        if octet == PAD:
            return self._take_pad()
        worth = _worth_of(octet)
        if worth is None or self._pads > 0:
            return False
        self._take_digit(worth)
        return True

    def _take_pad(self):
        # Behind 4 * k + 2 digits two pads can stand, behind 4 * k + 3 digits one.
        behind = self._digits % 4
        if behind < 2 or behind + self._pads > 3 or self._rest != 0:
            return False
        self._pads = self._pads + 1
        return True

    def _take_digit(self, worth):
        bits = self._rest * 64 + worth
        behind = self._digits % 4
        self._digits = self._digits + 1
        if behind == 0:
            self._rest = bits
            return
        # Behind the second, third and fourth digit 4, 2 and 0 bits are left over.
        octet, self._rest = divmod(bits, 1 << (6 - 2 * behind))
        self.octets.append(octet)


def encode64(octets):
    """The list of the octets that write some octets in base64."""
    written = []
    for at in range(0, len(octets), 3):
        written.extend(_encode_group(octets[at:at + 3]))
    return written


def _encode_group(octets):
    """The four octets that write one to three octets."""
    first, second, third = (list(octets) + [0, 0])[:3]
    bits = first * 65536 + second * 256 + third
    digits = [ord(DIGITS[(bits >> shift) % 64]) for shift in (18, 12, 6, 0)]
    many = len(octets) + 1
    return digits[:many] + [PAD] * (4 - many)
