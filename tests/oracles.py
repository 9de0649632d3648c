"""What the oracles share: functions that read a whole text from its octets and log which event comes where."""

import re

CHARACTER = re.compile(
    rb"[\x00-\x7f]|[\xc2-\xdf][\x80-\xbf]|\xe0[\xa0-\xbf][\x80-\xbf]|[\xe1-\xec\xee\xef][\x80-\xbf]{2}|"
    rb"\xed[\x80-\x9f][\x80-\xbf]|\xf0[\x90-\xbf][\x80-\xbf]{2}|[\xf1-\xf3][\x80-\xbf]{3}|"
    rb"\xf4[\x80-\x8f][\x80-\xbf]{2}")
OPEN = re.compile(
    rb"[\xc2-\xf4]|\xe0[\xa0-\xbf]|[\xe1-\xec\xee\xef][\x80-\xbf]|\xed[\x80-\x9f]|"
    rb"\xf0[\x90-\xbf][\x80-\xbf]?|[\xf1-\xf3][\x80-\xbf]{1,2}|\xf4[\x80-\x8f][\x80-\xbf]?")


class Fails(Exception):
    """An octet fails, or the octets end too early; the place is its argument."""


class Row:
    """The octets of a text, the place of the next one, and the events so far with the places of their octets."""

    def __init__(self, octets):
        self.octets = list(octets)
        self.place = 0
        self.log = []

    def peek(self, limit=None):
        """The next octet, which must stand before the limit."""
        if self.place == limit or self.place >= len(self.octets):
            raise Fails(self.place)
        return self.octets[self.place]

    def octet(self, limit=None):
        """The next octet, which is taken."""
        octet = self.peek(limit)
        self.place += 1
        return octet

    def take(self, many):
        """So many octets."""
        if self.place + many > len(self.octets):
            raise Fails(len(self.octets))
        self.place += many
        return self.octets[self.place - many:self.place]

    def at_end(self):
        return self.place == len(self.octets)

    def fail(self):
        """The octet that was taken last fails."""
        raise Fails(self.place - 1)

    def tell(self, event):
        """The event comes with the octet that was taken last."""
        self.log.append((self.place - 1, event))

    def tell_behind(self, event):
        """The event comes with the octet behind, or with the end."""
        self.log.append((self.place, event))


def scan(parse, octets):
    """The lists of events octet by octet and with the end, and the place that fails, or None."""
    row = Row(octets)
    place = None
    try:
        parse(row)
        if not row.at_end():
            raise Fails(row.place)
    except Fails as fault:
        place = fault.args[0]
    found = [[] for _ in range(len(row.octets) + 1)]
    for at, event in row.log:
        found[at].append(event)
    return found if place is None else found[:place], place


def integer_of(digits):
    """The integer that any number of digits write; Python turns only some thousands of them at once."""
    n = 0
    for at in range(0, len(digits), 4000):
        part = digits[at:at + 4000]
        n = n * 10 ** len(part) + int(part)
    return n


class Characters:
    """The code points of octets in UTF-8, by the table of the Unicode standard."""

    def __init__(self):
        self.points = []
        self.part = b""

    def take(self, octet):
        """Whether the octet can stand here."""
        self.part += bytes([octet])
        if CHARACTER.fullmatch(self.part):
            self.points.append(ord(self.part.decode()))
            self.part = b""
        return self.part == b"" or OPEN.fullmatch(self.part) is not None


def text_of(row, many):
    """The code points of a text of the next octets, the last of which fails within a character."""
    characters = Characters()
    for _ in range(many):
        if not characters.take(row.octet()):
            row.fail()
    if characters.part:
        row.fail()
    return tuple(characters.points)
