"""Bencode as points 7.1 to 7.4 tell it, over the whole row of octets."""

from tests import oracles

DIGITS = list(b"0123456789")


def scan(octets):
    return oracles.scan(text, octets)


def text(row):
    value(row, 0)


def value(row, levels):
    octet = row.octet()
    if octet == ord("i"):
        row.tell(("leaf", number(row)))
    elif octet in DIGITS:
        row.tell(("leaf", ("bytes", tuple(row.take(count(row, octet))))))
    elif octet in b"ld":
        if levels == 24:
            row.fail()
        row.tell(("open", "list" if octet == ord("l") else "map"))
        if octet == ord("l"):
            while row.peek() != ord("e"):
                value(row, levels + 1)
        else:
            entries(row, levels)
        row.octet()
        row.tell(("close",))
    else:
        row.fail()


def entries(row, levels):
    keys = set()
    while row.peek() != ord("e"):
        octet = row.octet()
        if octet not in DIGITS:
            row.fail()
        key = oracles.text_of(row, count(row, octet))
        if key in keys:
            row.fail()
        keys.add(key)
        row.tell(("key", key))
        value(row, levels + 1)


def count(row, octet):
    """The count that begins with this octet, which was taken; its colon is taken, too."""
    digits = chr(octet)
    while True:
        octet = row.octet()
        if octet == ord(":"):
            return int(digits)
        if octet not in DIGITS or digits == "0":
            row.fail()
        digits += chr(octet)


def number(row):
    written = ""
    while True:
        octet = row.octet()
        if octet == ord("e") and written not in ("", "-"):
            break
        if octet == ord("-") and written == "":
            written = "-"
        elif octet in DIGITS and written != "0" and (written, octet) != ("-", ord("0")):
            written += chr(octet)
        else:
            row.fail()
    if written == "0":
        return ("number", 0, 0)
    kept = written.rstrip("0")
    if len(written) - len(kept) > 800:
        row.fail()
    m = oracles.integer_of(kept.lstrip("-")) * (-1 if kept[0] == "-" else 1)
    return ("number", m, len(written) - len(kept))


def random_text(value, chance):
    """A text of a value: the entries of maps in any order."""
    kind = value[0]
    if kind == "number":
        return b"i" + str(value[1]).encode() + b"0" * value[2] + b"e"
    if kind == "bytes":
        return counted(bytes(value[1]))
    if kind == "list":
        return b"l" + b"".join(random_text(item, chance) for item in value[1]) + b"e"
    entries = [counted("".join(map(chr, key)).encode()) + random_text(part, chance) for key, part in value[1]]
    chance.shuffle(entries)
    return b"d" + b"".join(entries) + b"e"


def counted(octets):
    return str(len(octets)).encode() + b":" + octets
