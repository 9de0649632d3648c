"""BER as points 6.1 to 6.7 and 6.10 tell it, over the whole row of octets."""

import re

from tests import oracles
from tests.cbororacle import number_of

VALUES = (1, 2, 4, 5, 9, 12, 36, 44, 48, 49)
LONG = (36, 44, 48, 49)

BEFORE = r" *[+-]?"
MARKED = r"([0-9]+[.,][0-9]*|[.,][0-9]+)"
# What a decimal number of each kind is behind its first octet, and what begins one.
DECIMALS = {
    1: (BEFORE + r"[0-9]+", r" *([+-][0-9]*|[0-9]*)"),
    2: (BEFORE + MARKED, BEFORE + r"[0-9]*([.,][0-9]*)?"),
    3: (BEFORE + MARKED + r"[eE][+-]?[0-9]+", BEFORE + r"([0-9]*([.,][0-9]*)?|" + MARKED + r"[eE][+-]?[0-9]*)"),
}


def scan(octets):
    return oracles.scan(text, octets)


def text(row):
    value(row, None, 0)


def header(row, tags, limit, levels=0):
    """The tag, and the place behind the contents, None if the length is indefinite."""
    tag = row.octet(limit)
    if tag not in tags or (levels == 24 and tag in (48, 49)):
        row.fail()
    length = row.octet(limit)
    if length == 255 or (length == 128 and tag not in LONG):
        row.fail()
    if length == 128:
        return tag, None
    if length > 128:
        length = int.from_bytes([row.octet(limit) for _ in range(length - 128)], "big")
    if (tag == 1 and length != 1) or (tag == 5 and length != 0) or (tag == 2 and length == 0):
        row.fail()
    if limit is not None and row.place + length > limit:
        row.fail()
    return tag, row.place + length


def within(limit, end):
    return limit if end is None else end


def has_more(row, limit, end):
    """Whether contents go on; an end by two zeros is taken."""
    if end is not None:
        return row.place < end
    if row.peek(limit) != 0:
        return True
    zeros(row, limit)
    return False


def zeros(row, limit):
    for _ in range(2):
        if row.octet(limit) != 0:
            row.fail()


def value(row, limit, levels):
    tag, end = header(row, VALUES, limit, levels)
    inside = within(limit, end)
    if tag not in (48, 49):
        row.tell(("leaf", leaf(row, tag, inside, end)))
        return
    row.tell(("open", "list" if tag == 48 else "map"))
    keys = []
    while has_more(row, inside, end):
        if tag == 48:
            value(row, inside, levels + 1)
        else:
            entry(row, inside, levels, keys)
    row.tell(("close",))


def entry(row, limit, levels, keys):
    _, end = header(row, (48,), limit)
    inside = within(limit, end)
    tag, key_end = header(row, (12, 44), inside)
    key = leaf(row, tag, within(inside, key_end), key_end)[1]
    if key in keys:
        row.fail()
    keys.append(key)
    row.tell(("key", key))
    value(row, inside, levels + 1)
    if end is None:
        zeros(row, limit)
    elif row.place < end:
        row.octet()
        row.fail()


def leaf(row, tag, limit, end):
    if tag in (12, 44):
        return ("text", string(row, tag, limit, end, oracles.Characters()))
    if tag in (4, 36):
        return ("bytes", string(row, tag, limit, end, Octets()))
    if tag == 9:
        return decimal(row, end)
    octets = []
    while row.place < end:
        octets.append(row.octet())
        if tag == 2 and len(octets) == 2 and signed(octets) in range(-128, 128):
            row.fail()
    if tag == 5:
        return ("null",)
    if tag == 1:
        return ("truth", octets != [0])
    return number_of(signed(octets), 0)


def signed(octets):
    return int.from_bytes(octets, "big", signed=True)


class Octets:
    def __init__(self):
        self.points = []
        self.part = b""

    def take(self, octet):
        self.points.append(octet)
        return True


def string(row, tag, limit, end, taken):
    if tag in (4, 12):
        take_into(row, end, taken)
    else:
        while has_more(row, limit, end):
            take_into(row, header(row, (4,), limit)[1], taken)
    if taken.part:
        row.fail()
    return tuple(taken.points)


def take_into(row, end, taken):
    while row.place < end:
        if not taken.take(row.octet()):
            row.fail()


def decimal(row, end):
    if row.place == end:
        return ("number", 0, 0)
    kind = row.octet()
    if kind not in DECIMALS:
        row.fail()
    whole, beginning = DECIMALS[kind]
    written = ""
    while row.place < end:
        written += chr(row.octet())
        if not re.fullmatch(beginning, written):
            row.fail()
    if not re.fullmatch(whole, written):
        row.fail()
    digits, _, exponent = written.strip().replace(",", ".").lower().partition("e")
    before, _, behind = digits.partition(".")
    _, m, zeros_behind = number_of(int(before + behind), 0)
    return ("number", m, int(exponent or "0") - len(behind) + zeros_behind if m else 0)


def random_text(value, chance):
    """A text of a value: one of the many ways to write it."""
    kind = value[0]
    if kind == "null":
        return element(5, b"", chance)
    if kind == "truth":
        return element(1, bytes([chance.choice([1, 127, 128, 255]) if value[1] else 0]), chance)
    if kind == "number":
        return random_number(value[1], value[2], chance)
    if kind == "bytes":
        return random_string(4, bytes(value[1]), chance)
    if kind == "text":
        return random_string(12, written_text(value[1]), chance)
    if kind == "list":
        return element(48, b"".join(random_text(item, chance) for item in value[1]), chance)
    entries = []
    for key, part in value[1]:
        written = random_string(12, written_text(key), chance) + random_text(part, chance)
        entries.append(element(48, written, chance))
    chance.shuffle(entries)
    return element(49, b"".join(entries), chance)


def written_text(points):
    return "".join(map(chr, points)).encode()


def element(tag, contents, chance):
    if tag in LONG and chance.random() < 0.5:
        return bytes([tag, 128]) + contents + b"\0\0"
    return bytes([tag]) + random_length(len(contents), chance) + contents


def random_length(length, chance):
    octets = length.to_bytes((length.bit_length() + 7) // 8, "big")
    if length < 128 and chance.random() < 0.7:
        return bytes([length])
    octets = bytes(chance.choice([0, 0, 1, 3])) + octets
    octets = octets or b"\0"
    return bytes([128 + len(octets)]) + octets


def random_string(tag, octets, chance):
    if chance.random() < 0.6:
        return element(tag, octets, chance)
    segments = b""
    while octets or chance.random() < 0.3:
        many = chance.randint(0, len(octets))
        segments += element(4, octets[:many], chance)
        octets = octets[many:]
    return element(tag + 32, segments, chance)


def random_number(m, e, chance):
    if 0 <= e <= 30 and chance.random() < 0.7:
        integer = m * 10 ** e
        return element(2, integer.to_bytes(((integer if integer >= 0 else -1 - integer).bit_length()) // 8 + 1,
                                           "big", signed=True), chance)
    if m == 0 and chance.random() < 0.3:
        return element(9, b"", chance)
    kind = chance.choice([3] + ([1, 2] if 0 <= e <= 30 else [2] if -30 <= e < 0 else []))
    before = " " * chance.choice([0, 0, 1, 3]) + ("-" if m < 0 else chance.choice(["", "+"]))
    digits = "0" * chance.choice([0, 0, 2]) + str(abs(m))
    if kind != 3:
        digits += "0" * e
    if kind == 1:
        return element(9, bytes([1]) + (before + digits).encode(), chance)
    places = chance.randint(0, len(digits)) if kind == 3 else max(-e, 0)
    digits = "0" * (places - len(digits)) + digits
    at = len(digits) - places
    written = before + digits[:at] + chance.choice(".,") + digits[at:]
    if kind == 2:
        return element(9, bytes([2]) + (written + ("0" * chance.choice([0, 2]))).encode(), chance)
    e = e + places
    sign = "-" if e < 0 else chance.choice(["", "+"])
    written += chance.choice("eE") + sign + "0" * chance.choice([0, 2]) + str(abs(e))
    return element(9, bytes([3]) + written.encode(), chance)
