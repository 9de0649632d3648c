"""JSON as points 4.1 to 4.4 and 4.7 tell it, written as a coroutine that receives one octet after the other."""

import re

from tests.oracles import integer_of

WHITESPACE = list(b" \t\n\r")
NUMBER_BEGINS = re.compile(r"-?((0|[1-9][0-9]*)(\.[0-9]*|(\.[0-9]+)?[eE][+-]?[0-9]*)?)?")
NUMBER = re.compile(r"(-?)(0|[1-9][0-9]*)(?:\.([0-9]+))?(?:[eE]([+-]?[0-9]+))?")

HEX = "0123456789abcdefABCDEF"
# Each escape is a row of places, each place the characters that can stand there.
ESCAPES = [
    ["\"\\/bfnrt"],
    ["u", "".join(sorted(set(HEX) - set("dD"))), HEX, HEX, HEX],
    ["u", "dD", "01234567", HEX, HEX],
    ["u", "dD", "89abAB", HEX, HEX, "\\", "u", "dD", "cdefCDEF", HEX, HEX],
]
SHORT = {"b": 8, "f": 12, "n": 10, "r": 13, "t": 9}


class Fails(Exception):
    """The octet that was sent last fails."""


def number_value(text):
    """The value of a number, by its digits."""
    sign, before, behind, exponent = NUMBER.fullmatch(text).groups()
    behind = behind or ""
    digits = (before + behind).lstrip("0")
    kept = digits.rstrip("0")
    if kept == "":
        return ("number", 0, 0)
    exponent = exponent or "0"
    far = integer_of(exponent.lstrip("+-")) * (-1 if exponent[0] == "-" else 1)
    m = integer_of(kept) * (-1 if sign else 1)
    return ("number", m, far - len(behind) + len(digits) - len(kept))


def text(log):
    octet = yield
    octet = yield from skip(octet)
    octet = yield from value(octet, log, 0)
    octet = yield from skip(octet)
    if octet is not None:
        raise Fails()


def skip(octet):
    while octet in WHITESPACE:
        octet = yield
    return octet


def value(octet, log, levels):
    if octet == ord("["):
        return (yield from level("list", octet, log, levels))
    if octet == ord("{"):
        return (yield from level("map", octet, log, levels))
    if octet == ord('"'):
        points = yield from string()
        log.append(("leaf", ("text", points)))
        return (yield)
    if octet is not None and chr(octet) in "-0123456789":
        return (yield from number(octet, log))
    for word, meaning in ((b"null", ("null",)), (b"true", ("truth", True)), (b"false", ("truth", False))):
        if octet == word[0]:
            for wanted in word[1:]:
                octet = yield
                if octet != wanted:
                    raise Fails()
            log.append(("leaf", meaning))
            return (yield)
    raise Fails()


def level(kind, octet, log, levels):
    closes = ord("]") if kind == "list" else ord("}")
    if levels == 24:
        raise Fails()
    log.append(("open", kind))
    keys = []
    octet = yield
    octet = yield from skip(octet)
    if octet != closes:
        while True:
            if kind == "map":
                octet = yield from key(octet, keys, log)
            octet = yield from value(octet, log, levels + 1)
            octet = yield from skip(octet)
            if octet == closes:
                break
            if octet != ord(","):
                raise Fails()
            octet = yield
            octet = yield from skip(octet)
    log.append(("close",))
    return (yield)


def key(octet, keys, log):
    if octet != ord('"'):
        raise Fails()
    points = yield from string()
    if points in keys:
        raise Fails()
    keys.append(points)
    log.append(("key", points))
    octet = yield
    octet = yield from skip(octet)
    if octet != ord(":"):
        raise Fails()
    octet = yield
    return (yield from skip(octet))


def number(octet, log):
    taken = ""
    while octet is not None and NUMBER_BEGINS.fullmatch(taken + chr(octet)):
        taken += chr(octet)
        octet = yield
    if not NUMBER.fullmatch(taken):
        raise Fails()
    log.append(("leaf", number_value(taken)))
    return octet


def string():
    points = []
    while True:
        octet = yield
        if octet is None or octet < 32:
            raise Fails()
        if octet == ord('"'):
            return tuple(points)
        if octet == ord("\\"):
            points.append((yield from escape()))
        else:
            points.append((yield from character(octet)))


def character(octet):
    taken = bytes([octet])
    while True:
        completions = [taken + bytes([fill]) * many for fill in (0x80, 0xBF) for many in range(4)]
        points = [point for point in map(decoded, completions) if point is not None]
        if not points:
            raise Fails()
        if decoded(taken) is not None:
            return decoded(taken)
        octet = yield
        if octet is None:
            raise Fails()
        taken += bytes([octet])


def decoded(octets):
    """The code point that the octets write, None if they do not write one."""
    try:
        found = octets.decode()
    except UnicodeDecodeError:
        return None
    return ord(found) if len(found) == 1 else None


def escape():
    rows = ESCAPES
    taken = ""
    while True:
        octet = yield
        if octet is None:
            raise Fails()
        rows = [row for row in rows if chr(octet) in row[len(taken)]]
        if not rows:
            raise Fails()
        taken += chr(octet)
        if len(taken) == len(rows[0]):
            return meaning_of(taken)


def meaning_of(taken):
    if taken[0] != "u":
        return SHORT.get(taken, ord(taken))
    units = b"".join(int(part, 16).to_bytes(2, "big") for part in taken[1:].split("\\u"))
    return ord(units.decode("utf-16-be"))


def scan(octets):
    """The lists of events octet by octet and with the end, and the place that fails, or None."""
    log, found = [], []
    reader = text(log)
    next(reader)
    for place, octet in enumerate([*octets, None]):
        try:
            reader.send(octet)
        except Fails:
            return found, place
        except StopIteration:
            pass
        found.append(list(log))
        log.clear()
    return found, None


def random_string(points, chance):
    written = b'"'
    for point in points:
        units = chr(point).encode("utf-16-be")
        short = {34: b'\\"', 92: b"\\\\", 47: b"\\/", 8: b"\\b", 12: b"\\f", 10: b"\\n", 13: b"\\r", 9: b"\\t"}
        if point in short and chance.random() < 0.6:
            written += short[point]
        elif point < 32 or point in (34, 92) or chance.random() < 0.3:
            for at in range(0, len(units), 2):
                digits = units[at:at + 2].hex()
                written += b"\\u" + chance.choice([digits, digits.upper()]).encode()
        else:
            written += chr(point).encode()
    return written + b'"'


def random_number(m, e, chance):
    """One of the ways to write m * 10 ** e."""
    zeros = chance.randint(0, 3)
    digits = str(abs(m)) + "0" * zeros
    e = e - zeros
    places = chance.randint(0, len(digits) - 1)
    fraction = ""
    if places > 0 and (len(digits) == places + 1 or digits[0] != "0"):
        digits, fraction = digits[:-places], "." + digits[-places:]
        e = e + places
    digits = str(int(digits))
    exponent = ""
    if e != 0 or chance.random() < 0.3:
        sign = "-" if e < 0 else chance.choice(["", "+"])
        exponent = chance.choice("eE") + sign + "0" * chance.randint(0, 2) + str(abs(e))
    sign = "-" if m < 0 or (m == 0 and chance.random() < 0.3) else ""
    return (sign + digits + fraction + exponent).encode()


def random_text(value, chance):
    """A text of a value: one of the many ways to write it."""
    def space():
        return bytes(chance.choice(WHITESPACE) for _ in range(chance.choice([0, 0, 0, 1, 2])))

    kind = value[0]
    if kind == "null":
        written = b"null"
    elif kind == "truth":
        written = b"true" if value[1] else b"false"
    elif kind == "number":
        written = random_number(value[1], value[2], chance)
    elif kind == "text":
        written = random_string(value[1], chance)
    elif kind == "list":
        written = b"[" + (b",".join(random_text(item, chance) for item in value[1]) or space()) + b"]"
    else:
        entries = [space() + random_string(points, chance) + space() + b":" + random_text(part, chance)
                   for points, part in value[1]]
        chance.shuffle(entries)
        written = b"{" + (b",".join(entries) or space()) + b"}"
    return space() + written + space()
