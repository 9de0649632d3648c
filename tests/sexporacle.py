"""S-expressions as points 8.1, 8.2 and 8.5 tell them, over the whole row of octets."""

import base64

from tests import oracles

WHITESPACE = list(b" \t\n\v\f\r")
DIGITS = list(b"0123456789")
TOKEN_BEGINS = list(b"abcdefghijklmnopqrstuvwxyzABCDEFGHIJKLMNOPQRSTUVWXYZ-./_:*+=")
BASE64 = list(b"ABCDEFGHIJKLMNOPQRSTUVWXYZabcdefghijklmnopqrstuvwxyz0123456789+/")
HEX = list(b"0123456789abcdefABCDEF")
ESCAPES = {"b": 8, "t": 9, "v": 11, "n": 10, "f": 12, "r": 13, '"': 34, "'": 39, "\\": 92, "?": 63}


def scan(octets):
    return oracles.scan(text, octets)


def text(row):
    skip(row)
    value(row, 0)
    skip(row, may_end=True)


def skip(row, may_end=False):
    while not (may_end and row.at_end()) and row.peek() in WHITESPACE:
        row.octet()


def value(row, levels):
    octet = row.octet()
    if octet == ord("("):
        if levels == 24:
            row.fail()
        row.tell(("open", "list"))
        skip(row)
        while row.peek() != ord(")"):
            value(row, levels + 1)
            skip(row)
        row.octet()
        row.tell(("close",))
    elif octet in TOKEN_BEGINS:
        taken = [octet]
        while not row.at_end() and row.peek() in TOKEN_BEGINS + DIGITS:
            taken.append(row.octet())
        row.tell_behind(("leaf", ("bytes", tuple(taken))))
    else:
        row.tell(("leaf", ("bytes", tuple(atom(row, octet)))))


def atom(row, octet):
    if octet in DIGITS:
        return counted(row, octet)
    if octet == ord('"'):
        return quoted(row)
    if octet == ord("#"):
        return hexadecimal(row)
    if octet == ord("|"):
        return in_base64(row)
    return row.fail()


def counted(row, octet):
    digits = chr(octet)
    octet = row.octet()
    while octet in DIGITS and digits != "0":
        digits += chr(octet)
        octet = row.octet()
    if octet != ord(":"):
        row.fail()
    return row.take(int(digits))


def one_of(row, allowed):
    octet = row.octet()
    if octet not in list(allowed):
        row.fail()
    return chr(octet)


def quoted(row):
    octets = []
    while True:
        octet = row.octet()
        if octet == ord('"'):
            return octets
        if octet == ord("\\"):
            octets.extend(escape(row))
        elif 32 <= octet <= 126:
            octets.append(octet)
        else:
            row.fail()


def escape(row):
    sign = one_of(row, b"btvnfr\"'\\?0123x\n")
    if sign == "\n":
        return []
    if sign == "x":
        return [int(one_of(row, HEX) + one_of(row, HEX), 16)]
    if sign in "0123":
        return [int(sign + one_of(row, b"01234567") + one_of(row, b"01234567"), 8)]
    return [ESCAPES[sign]]


def hexadecimal(row):
    digits = ""
    while True:
        octet = row.octet()
        if octet == ord("#") and len(digits) % 2 == 0:
            return bytes.fromhex(digits)
        if octet in HEX:
            digits += chr(octet)
        elif octet not in WHITESPACE:
            row.fail()


def in_base64(row):
    taken = ""
    while True:
        octet = row.octet()
        if octet == ord("|") and len(taken) % 4 == 0:
            return base64.b64decode(taken)
        if octet not in WHITESPACE:
            taken += chr(octet)
            if not begins_base64(taken):
                row.fail()


def begins_base64(taken):
    """Whether digits or "=" behind what was taken make it what Python writes for some octets."""
    if taken[-1] == "=":
        whole = taken + "=" * (-len(taken) % 4)
        digits = whole.rstrip("=")
        if len(digits) % 4 < 2 or len(whole) - len(digits) > 2:
            return False
        return base64.b64encode(base64.b64decode(digits + "=" * (-len(digits) % 4))).decode() == whole
    return "=" not in taken and ord(taken[-1]) in BASE64


def random_text(value, chance):
    """A text of a value: one of the many ways to write it."""
    if value[0] == "bytes":
        return space(chance) + random_atom(bytes(value[1]), chance) + space(chance)
    written = b""
    behind_token = False
    for item in value[1]:
        one = random_text(item, chance)
        # A token ends only with an octet that is none of it.
        if behind_token and one[0] in TOKEN_BEGINS + DIGITS:
            written += bytes([chance.choice(WHITESPACE)])
        written += one
        behind_token = item[0] == "bytes" and one.lstrip(bytes(WHITESPACE)) == bytes(item[1])
    return space(chance) + b"(" + (written or space(chance)) + b")" + space(chance)


def space(chance):
    return bytes(chance.choice(WHITESPACE) for _ in range(chance.choice([0, 0, 0, 1, 2])))


def random_atom(octets, chance):
    ways = ["counted", "quoted", "hexadecimal", "base64"]
    if octets and octets[0] in TOKEN_BEGINS and all(octet in TOKEN_BEGINS + DIGITS for octet in octets):
        ways = ["token"] + ways
    way = chance.choice(ways)
    if way == "token":
        return octets
    if way == "counted":
        return str(len(octets)).encode() + b":" + octets
    if way == "quoted":
        return b'"' + b"".join(random_character(octet, chance) for octet in octets) + b'"'
    if way == "hexadecimal":
        digits = chance.choice([octets.hex(), octets.hex().upper()])
        return b"#" + spread(digits.encode(), chance) + b"#"
    return b"|" + spread(base64.b64encode(octets), chance) + b"|"


def spread(digits, chance):
    return space(chance) + b"".join(bytes([digit]) + space(chance) for digit in digits)


def random_character(octet, chance):
    ways = [b"\\x%02x" % octet, b"\\x%02X" % octet, b"\\%03o" % octet]
    ways += [b"\\" + sign.encode() for sign, meant in ESCAPES.items() if meant == octet]
    if 32 <= octet <= 126 and octet not in b'"\\':
        ways = [bytes([octet])] * 5 + ways
    return chance.choice(ways) + chance.choice([b"", b"", b"", b"\\\n"])
