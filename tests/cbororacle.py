"""CBOR as points 5.1 to 5.5 and 5.8 tell it, over the whole row of octets."""

import struct
from fractions import Fraction

from tests import oracles

FLOATS = {25: (">e", 2), 26: (">f", 4), 27: (">d", 8)}
SIMPLE = {20: ("truth", False), 21: ("truth", True), 22: ("null",)}


def scan(octets):
    return oracles.scan(text, octets)


def text(row):
    value(row, 0)


def head(row, majors, long_ones=()):
    """The major, the info and the argument, None if the length is indefinite."""
    octet = row.octet()
    major, info = octet >> 5, octet & 31
    if major not in majors or info in (28, 29, 30) or (info == 31 and major not in long_ones):
        row.fail()
    if major == 7 and info not in SIMPLE and info not in FLOATS:
        row.fail()
    if info == 31:
        return major, info, None
    if info < 24:
        return major, info, info
    return major, info, int.from_bytes(row.take(2 ** (info - 24)), "big")


def value(row, levels):
    if row.peek() >> 5 in (4, 5) and levels == 24:
        row.octet()
        row.fail()
    major, info, n = head(row, range(8), (2, 3, 4, 5))
    if major in (4, 5):
        level(row, major, n, levels)
    else:
        row.tell(("leaf", leaf(row, major, info, n)))


def level(row, major, n, levels):
    row.tell(("open", "list" if major == 4 else "map"))
    keys = []
    many = 0
    while not is_done(row, n, many):
        if major == 5:
            key = string(row, 3, head(row, (3,), (3,))[2])[1]
            if key in keys:
                row.fail()
            keys.append(key)
            row.tell(("key", key))
        value(row, levels + 1)
        many += 1
    row.tell(("close",))


def is_done(row, n, many):
    """Whether nothing is missing; the break is taken."""
    if n is not None:
        return many == n
    if row.peek() != 255:
        return False
    row.octet()
    return True


def leaf(row, major, info, n):
    if major in (0, 1):
        return number_of(integer(row, major, n), 0)
    if major in (2, 3):
        return string(row, major, n)
    if major == 6:
        return tagged(row, n)
    if info in SIMPLE:
        return SIMPLE[info]
    return floating(row, info, n)


def floating(row, info, bits):
    sign, many = FLOATS[info]
    found = struct.unpack(sign, bits.to_bytes(many, "big"))[0]
    if found != found or found in (float("inf"), float("-inf")):
        row.fail()
    m, e = Fraction(found), 0
    while m.denominator != 1:
        m, e = m * 10, e - 1
    return number_of(int(m), e)


def number_of(m, e):
    while m != 0 and m % 10 == 0:
        m, e = m // 10, e + 1
    return ("number", m, e if m else 0)


def string(row, major, n):
    if n is not None:
        return ("bytes", tuple(row.take(n))) if major == 2 else ("text", oracles.text_of(row, n))
    parts = ()
    while not is_done(row, None, 0):
        parts += string(row, major, head(row, (major,))[2])[1]
    return ("bytes" if major == 2 else "text", parts)


def integer(row, major, n):
    """The integer of a head of major 0, 1 or 6."""
    if major == 6:
        octets = string(row, 2, head(row, (2,), (2,))[2])[1]
        major, n = n - 2, int.from_bytes(octets, "big")
    return n if major == 0 else -1 - n


def tagged(row, n):
    if n in (2, 3):
        return number_of(integer(row, 6, n), 0)
    if n != 4:
        row.fail()
    if head(row, (4,))[2] != 2:
        row.fail()
    major, _, n = head(row, (0, 1))
    exponent = integer(row, major, n)
    major, _, n = head(row, (0, 1, 6))
    if major == 6 and n not in (2, 3):
        row.fail()
    mantissa = integer(row, major, n)
    # Only the zeros of the mantissa change a far exponent, so it is split off before.
    _, m, zeros = number_of(mantissa, 0)
    e = exponent + zeros if m else 0
    if abs(e) > 10 ** 9:
        row.fail()
    return ("number", m, e)


def random_text(value, chance):
    """A text of a value: one of the many ways to write it."""
    kind = value[0]
    if kind == "null":
        return b"\xf6"
    if kind == "truth":
        return b"\xf5" if value[1] else b"\xf4"
    if kind == "number":
        return random_number(value[1], value[2], chance)
    if kind in ("bytes", "text"):
        return random_string(kind, value[1], chance)
    if kind == "list":
        return random_level(4, [random_text(item, chance) for item in value[1]], chance)
    entries = [random_string("text", key, chance) + random_text(part, chance) for key, part in value[1]]
    chance.shuffle(entries)
    return random_level(5, entries, chance)


def random_head(major, argument, chance):
    """A head, perhaps longer than needed."""
    widths = [many for many in (0, 1, 2, 4, 8) if argument < (256 ** many if many else 24)]
    many = chance.choice(widths[:1] * 4 + widths)
    if many == 0:
        return bytes([major * 32 + argument])
    return bytes([major * 32 + 24 + (1, 2, 4, 8).index(many)]) + argument.to_bytes(many, "big")


def random_level(major, parts, chance):
    if chance.random() < 0.5:
        return bytes([major * 32 + 31]) + b"".join(parts) + b"\xff"
    return random_head(major, len(parts), chance) + b"".join(parts)


def written_string(major, parts, chance):
    octets = bytes(parts) if major == 2 else "".join(map(chr, parts)).encode()
    return random_head(major, len(octets), chance) + octets


def random_string(kind, parts, chance):
    major = 2 if kind == "bytes" else 3
    if chance.random() < 0.7:
        return written_string(major, parts, chance)
    written = b""
    while parts or chance.random() < 0.3:
        many = chance.randint(0, len(parts))
        written += written_string(major, parts[:many], chance)
        parts = parts[many:]
    return bytes([major * 32 + 31]) + written + b"\xff"


def random_integer(integer, chance):
    major, n = (0, integer) if integer >= 0 else (1, -1 - integer)
    if n < 2 ** 64 and chance.random() < 0.8:
        return random_head(major, n, chance)
    octets = bytes(chance.choice([0, 0, 0, 1, 2])) + n.to_bytes((n.bit_length() + 7) // 8, "big")
    return random_head(6, 2 + major, chance) + random_string("bytes", tuple(octets), chance)


def random_number(m, e, chance):
    floats = written_floats(m, e)
    if floats and chance.random() < 0.6:
        return chance.choice(floats)
    if 0 <= e <= 30 and chance.random() < 0.8:
        return random_integer(m * 10 ** e, chance)
    zeros = chance.choice([0, 0, 1, 5])
    pair = random_head(*((0, e - zeros) if e >= zeros else (1, zeros - e - 1)), chance)
    return random_head(6, 4, chance) + random_head(4, 2, chance) + pair + random_integer(m * 10 ** zeros, chance)


def written_floats(m, e):
    """All floats with the worth m * 10 ** e."""
    if abs(e) > 30:
        return []
    worth = Fraction(m) * Fraction(10) ** e
    found = []
    for info, (sign, _) in FLOATS.items():
        try:
            packed = struct.pack(sign, float(worth))
        except OverflowError:
            continue
        if Fraction(struct.unpack(sign, packed)[0]) == worth:
            found.append(bytes([7 * 32 + info]) + packed)
    return found
