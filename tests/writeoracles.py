"""Canonical and loose texts as parts 4 to 8 of the document tell them, by other ways than those of the program.

Of each form there are the canonical octets of a value, and `pairs`: the events of a value, the entries of its maps
in any order, each with the octets that the loose writer writes for it.
"""

import re

CLOSE = ("close",)


def string_of(points):
    return "".join(map(chr, points))


def digits_of(n):
    """The digits of an integer; Python writes only some thousands of them at once."""
    if n < 0:
        return "-" + digits_of(-n)
    return str(n) if n < 10 ** 4000 else digits_of(n // 10 ** 4000) + str(n % 10 ** 4000).zfill(4000)


def shuffled(entries, chance):
    entries = list(entries)
    if chance is not None:
        chance.shuffle(entries)
    return entries


class Oracle:
    """A form; its subclass tells the octets of keys and leaves, the canonical ones and those around the parts."""

    def canonical(self, value):
        raise NotImplementedError

    def key(self, points):
        raise NotImplementedError

    def loose_leaf(self, value):
        return self.canonical(value)

    # The octets of the loose writer: before items and keys but the first ones, before values of entries, before
    # keys, behind values of entries, and those of the brackets.
    gap = b""
    between = b""
    before_entry = b""
    behind_entry = b""
    brackets = {}

    def pairs(self, value, chance=None, before=b"", behind=b""):
        if value[0] not in ("list", "map"):
            return [(("leaf", value), before + self.loose_leaf(value) + behind)]
        opening, closing = self.brackets[value[0]]
        found = [(("open", value[0]), before + opening)]
        if value[0] == "list":
            for at, item in enumerate(value[1]):
                found.extend(self.pairs(item, chance, self.gap if at else b""))
        else:
            for at, (points, part) in enumerate(shuffled(value[1], chance)):
                octets = (self.gap if at else b"") + self.before_entry + self.key(points)
                found.append((("key", points), octets))
                found.extend(self.pairs(part, chance, self.between, self.behind_entry))
        found.append((CLOSE, closing + behind))
        return found


class JsonOracle(Oracle):
    gap = b", "
    between = b": "
    brackets = {"list": (b"[", b"]"), "map": (b"{", b"}")}
    escapes = {'"': '\\"', "\\": "\\\\", "\b": "\\b", "\t": "\\t", "\n": "\\n", "\f": "\\f", "\r": "\\r"}

    def key(self, points):
        written = [self.escapes.get(sign, "\\u%04x" % ord(sign) if sign < " " else sign) for sign in string_of(points)]
        return '"{}"'.format("".join(written)).encode()

    def canonical(self, value):
        kind = value[0]
        if kind == "list":
            return b"[" + b",".join(map(self.canonical, value[1])) + b"]"
        if kind == "map":
            entries = sorted(value[1], key=lambda entry: string_of(entry[0]).encode("utf-16-be"))
            return b"{" + b",".join(self.key(points) + b":" + self.canonical(part) for points, part in entries) + b"}"
        if kind == "text":
            return self.key(value[1])
        if kind == "number":
            return self.number(value[1], value[2]).encode()
        return {"null": b"null", "truth": b"true" if value[-1] is True else b"false"}[kind]

    def number(self, m, e):
        sign, digits = re.fullmatch("(-?)(.*)", digits_of(m)).groups()
        n = len(digits) + e
        if m == 0:
            return "0"
        if -6 < n <= 21:
            # The point may stand among the digits, or among the zeros around them.
            row = "0" * (1 - n) + digits + "0" * (n - len(digits))
            at = max(n, 1)
            return sign + row[:at] + ("." + row[at:] if row[at:] else "")
        return sign + digits[0] + ("." + digits[1:] if digits[1:] else "") + "e" + \
            ("+" if n > 1 else "") + digits_of(n - 1)


class CborOracle(Oracle):
    brackets = {"list": (b"\x9f", b"\xff"), "map": (b"\xbf", b"\xff")}

    def head(self, major, n):
        if n < 24:
            return bytes([major << 5 | n])
        info, many = next((info, 1 << info - 24) for info in (24, 25, 26, 27) if n < 1 << (8 << info - 24))
        return bytes([major << 5 | info]) + n.to_bytes(many, "big")

    def key(self, points):
        octets = string_of(points).encode()
        return self.head(3, len(octets)) + octets

    def canonical(self, value):
        kind = value[0]
        if kind == "list":
            return self.head(4, len(value[1])) + b"".join(map(self.canonical, value[1]))
        if kind == "map":
            entries = sorted((self.key(points), self.canonical(part)) for points, part in value[1])
            return self.head(5, len(entries)) + b"".join(key + part for key, part in entries)
        if kind == "text":
            return self.key(value[1])
        if kind == "bytes":
            return self.head(2, len(value[1])) + bytes(value[1])
        if kind == "number" and 0 <= value[2] <= 64:
            return self.integer(value[1] * 10 ** value[2])
        if kind == "number":
            return b"\xc4\x82" + self.integer(value[2]) + self.integer(value[1])
        return {"null": b"\xf6", "truth": b"\xf5" if value[-1] is True else b"\xf4"}[kind]

    def integer(self, integer):
        major, n = (0, integer) if integer >= 0 else (1, -1 - integer)
        if n < 1 << 64:
            return self.head(major, n)
        octets = n.to_bytes(1000, "big").lstrip(b"\0")
        return bytes([0xC2 + major]) + self.head(2, len(octets)) + octets


class BerOracle(Oracle):
    before_entry = b"\x30\x80"
    behind_entry = b"\0\0"
    brackets = {"list": (b"\x30\x80", b"\0\0"), "map": (b"\x31\x80", b"\0\0")}

    def element(self, tag, contents):
        length = len(contents).to_bytes(10, "big").lstrip(b"\0") or b"\0"
        if len(contents) >= 128:
            length = bytes([128 + len(length)]) + length
        return bytes([tag]) + length + contents

    def key(self, points):
        return self.element(12, string_of(points).encode())

    def canonical(self, value):
        kind = value[0]
        if kind == "list":
            return self.element(48, b"".join(map(self.canonical, value[1])))
        if kind == "map":
            entries = [self.element(48, self.key(points) + self.canonical(part)) for points, part in value[1]]
            return self.element(49, b"".join(sorted(entries)))
        if kind == "text":
            return self.key(value[1])
        if kind == "bytes":
            return self.element(4, bytes(value[1]))
        if kind == "number" and 0 <= value[2] <= 64:
            return self.element(2, self.integer(value[1] * 10 ** value[2]))
        if kind == "number":
            return self.element(9, b"\x03" + (digits_of(value[1]) + ".E" + digits_of(value[2])).encode())
        return {"null": b"\x05\x00", "truth": b"\x01\x01" + (b"\xff" if value[-1] is True else b"\x00")}[kind]

    def integer(self, integer):
        octets = integer.to_bytes(1000, "big", signed=True)
        while len(octets) > 1 and octets[0] == (255 if octets[1] >= 128 else 0):
            octets = octets[1:]
        return octets


class BencodeOracle(Oracle):
    brackets = {"list": (b"l", b"e"), "map": (b"d", b"e")}

    def counted(self, octets):
        return b"%d:" % len(octets) + octets

    def key(self, points):
        return self.counted(string_of(points).encode())

    def canonical(self, value):
        if value[0] == "list":
            return b"l" + b"".join(map(self.canonical, value[1])) + b"e"
        if value[0] == "map":
            entries = sorted(value[1], key=lambda entry: string_of(entry[0]).encode())
            return b"d" + b"".join(self.key(points) + self.canonical(part) for points, part in entries) + b"e"
        if value[0] == "bytes":
            return self.counted(bytes(value[1]))
        zeros = "0" * value[2]
        return ("i" + digits_of(value[1]) + zeros + "e").encode()


class SexpOracle(Oracle):
    gap = b" "
    brackets = {"list": (b"(", b")")}

    def canonical(self, value):
        if value[0] == "list":
            return b"(" + b"".join(map(self.canonical, value[1])) + b")"
        return b"%d:" % len(value[1]) + bytes(value[1])

    def loose_leaf(self, value):
        octets = bytes(value[1])
        if re.fullmatch(rb"[A-Za-z./_:*+=-][A-Za-z0-9./_:*+=-]*", octets):
            return octets
        if re.fullmatch(rb"[ -~]*", octets):
            return b'"' + re.sub(rb'(["\\])', rb"\\\1", octets) + b'"'
        return b"#" + octets.hex().encode() + b"#"


ORACLES = {"json": JsonOracle(), "cbor": CborOracle(), "ber": BerOracle(), "bencode": BencodeOracle(),
           "sexp": SexpOracle()}


def is_lacking(form, value):
    """Whether the form lacks this value, whatever is in it."""
    kind = value[0]
    if kind == "number":
        least, most = {"json": (None, None), "cbor": (-10 ** 9, 10 ** 9), "ber": (None, None), "bencode": (0, 800),
                       "sexp": (1, 0)}[form]
        return least is not None and not least <= value[2] <= most
    return {"json": kind == "bytes", "cbor": False, "ber": False, "bencode": kind in ("null", "truth", "text"),
            "sexp": kind not in ("bytes", "list")}[form]


def preorder(value):
    found = [value]
    parts = [entry[1] for entry in value[1]] if value[0] == "map" else value[1] if value[0] == "list" else ()
    for part in parts:
        found.extend(preorder(part))
    return found


def first_lacking(form, value):
    """The index in preorder of the first value that the form lacks, or None."""
    return next((index for index, found in enumerate(preorder(value)) if is_lacking(form, found)), None)
