"""Long lists, maps and strings, and much whitespace: read whole, in pieces and by carry."""

import base64
import random
import unittest

from formsalike.chains import convert, through
from formsalike.forms import FORMS, is_canonical, lacks, read, write
from formsalike.streams import carry, read_pieces
from tests import wholly
from tests.wholly import in_width
from tests.writeoracles import ORACLES

ONE = ("number", 1, 0)
SPACE = b" \t\n\r"


def text_of(form, value):
    """A loosely written text."""
    return b"".join(octets for _, octets in ORACLES[form].pairs(value))


class LongTest(unittest.TestCase):
    def check(self, form, octets, value, goals=("ber",)):
        """A text is read as the value, whole and in pieces, and carried as a text of the value."""
        self.assertEqual(read(form, list(octets)), value)
        self.assertEqual(read_pieces(form, in_width(octets, 1)), value)
        written = list(ORACLES[form].canonical(value))
        self.assertEqual(convert(form, form, tuple(octets)), written)
        for goal in goals:
            rows = carry(form, goal, in_width(octets, 1000))
            self.assertEqual(len(rows), len(octets) // 1000 + (2 if len(octets) % 1000 else 1))
            carried = [octet for row in rows for octet in row]
            self.assertEqual(convert(goal, form, carried), written)

    def check_everywhere(self, value):
        """The value in all forms that have it, written in both ways, and through all of them."""
        having = [form for form in FORMS if lacks(form, value) is None]
        for form, goal in zip(having, having[1:] + having[:1]):
            self.check(form, text_of(form, value), value, [goal])
            self.assertIs(is_canonical(form, write(form, value)), True)
        self.assertEqual(through(value, having), value)


class ListsAndMapsTest(LongTest):
    def test_lists(self):
        self.check_everywhere(("list", (ONE, ("list", ()), ("map", ())) * 700))
        self.check_everywhere(("list", (("bytes", (97,)), ("list", (("bytes", ()),))) * 1000))
        self.check_everywhere(("list", (("null",), ("truth", True), ("text", (97,)), ("number", 15, -1)) * 400))

    def test_maps(self):
        self.check_everywhere(("map", tuple(((at // 100, at), ONE) for at in range(1500))))
        self.check_everywhere(("map", tuple(((0x10000 + at,), ("map", (((), ONE),))) for at in range(1100))))

    def test_maps_with_a_key_again_at_the_end(self):
        names = [b"%05d" % at for at in range(2000)] + [b"00000"]
        octets = b"{" + b",".join(b'"%s":1' % name for name in names) + b"}"
        self.check_refused("json", octets, octets.rindex(b'"'))
        octets = b"d" + b"".join(b"5:%si1e" % name for name in names) + b"e"
        self.check_refused("bencode", octets, octets.rindex(b"i") - 1)
        octets = b"\xbf" + b"".join(b"\x65%s\x01" % name for name in names) + b"\xff"
        self.check_refused("cbor", octets, len(octets) - 3)
        octets = b"\x31\x80" + b"".join(b"\x30\x0a\x0c\x05%s\x02\x01\x01" % name for name in names) + b"\0\0"
        self.check_refused("ber", octets, len(octets) - 6)

    def check_refused(self, form, octets, place):
        for pieces in (in_width(octets, 7), in_width(octets, 1000), [list(octets)]):
            self.assertEqual(wholly.outcome(read_pieces, form, pieces), ("place", place))
            self.assertEqual(wholly.outcome(carry, form, "ber", pieces), ("place", place))


class StringsTest(LongTest):
    def test_bytes(self):
        for many in (65535, 65536):
            octets = tuple(at * 7 % 256 for at in range(many))
            for form in ("cbor", "ber", "bencode", "sexp"):
                goal = {"cbor": "sexp", "ber": "bencode", "bencode": "cbor", "sexp": "ber"}[form]
                self.check(form, text_of(form, ("bytes", octets)), ("bytes", octets), [goal])

    def test_texts(self):
        for points in ((98,) * 65535, (98,) * 65536, (97, 0x20AC, 10, 0x1F600) * 7000):
            for form in ("json", "cbor", "ber"):
                goal = {"cbor": "json", "ber": "cbor", "json": "ber"}[form]
                self.check(form, text_of(form, ("text", points)), ("text", points), [goal])

    def test_keys(self):
        self.check_everywhere(("map", (((97,) * 65535, ONE), ((97,) * 65536, ONE))))

    def test_bytes_as_atoms_of_each_kind(self):
        octets = bytes(at % 256 for at in range(65536))
        value = ("bytes", tuple(octets))
        self.check("sexp", b"#" + octets.hex().encode() + b"#", value)
        self.check("sexp", b"|" + base64.b64encode(octets) + b"|", value)
        self.check("sexp", b'"' + b"".join(b"\\%03o" % octet for octet in octets) + b'"', value)
        self.check("sexp", b"k" * 65536, ("bytes", tuple(b"k" * 65536)))

    def test_as_many_pieces_as_octets(self):
        octets = bytes(at * 5 % 256 for at in range(5000))
        value = ("bytes", tuple(octets))
        self.check("cbor", b"\x5f" + b"".join(b"\x41%c" % octet for octet in octets) + b"\xff", value)
        self.check("cbor", b"\x5f" + b"".join(b"\x40\x41%c" % octet for octet in octets) + b"\xff", value, ["sexp"])
        for opening, closing in ((b"\x24\x80", b"\0\0"), (b"\x24\x82" + (15000).to_bytes(2, "big"), b"")):
            segments = b"".join(b"\x04\x01%c" % octet for octet in octets)
            self.check("ber", opening + segments + closing, value, ["bencode"])
        points = (97, 0x20AC) * 2000
        octets = "".join(map(chr, points)).encode()
        chunks = [chr(point).encode() for point in points]
        self.check("cbor", b"\x7f" + b"".join(bytes([0x60 + len(chunk)]) + chunk for chunk in chunks) + b"\xff",
                   ("text", points), ["json"])
        self.check("ber", b"\x2c\x80" + b"".join(b"\x04\x01%c" % octet for octet in octets) + b"\0\0",
                   ("text", points), ["json"])
        self.check("json", b'"' + b"".join(b"\\u%04x" % point for point in points) + b'"', ("text", points), ["cbor"])


class WhitespaceTest(LongTest):
    def test_in_each_place_of_json(self):
        space = SPACE * 250
        self.assertEqual(len(space), 1000)
        marks = (b"[", b"1", b",", b"{", b'"a"', b":", b"null", b"}", b"]")
        value = ("list", (ONE, ("map", (((97,), ("null",)),))))
        self.check("json", space + space.join(marks) + space, value)
        for at in range(len(marks) + 1):
            octets = b"".join(marks[:at]) + b" " * 1000 + b"".join(marks[at:])
            self.check("json", octets, value)

    def test_in_each_place_of_sexp(self):
        marks = (b"(", b"a", b"(", b"#6", b"1#", b")", b"|Y", b"Q==|", b")")
        value = ("list", (("bytes", (97,)), ("list", (("bytes", (97,)),)), ("bytes", (97,))))
        for space in (b" " * 1000, b"\n\t\v\f\r" * 200):
            self.check("sexp", space + space.join(marks) + space, value)

    def test_in_front_of_a_place(self):
        for form, octet in (("json", b"]"), ("sexp", b")")):
            octets = b" " * 100000 + octet
            self.assertEqual(wholly.outcome(read, form, list(octets)), ("place", 100000))
            self.assertEqual(wholly.outcome(carry, form, "ber", in_width(octets, 999)), ("place", 100000))


class NumbersTest(LongTest):
    def test_many_digits(self):
        m = 10 ** 1999 + 7
        for value in (("number", m, 0), ("number", -m, 64), ("number", m, 65), ("number", m, -1), ("number", -m, 800)):
            self.check_everywhere(("list", (value, ONE, value)))
        digits = b"1" + b"0" * 2998 + b"1"
        value = ("number", 10 ** 2999 + 1, 0)
        for form, octets in (("json", digits), ("bencode", b"i" + digits + b"e"),
                             ("ber", b"\x09\x82\x0b\xb9\x01" + digits)):
            self.assertEqual(read(form, list(octets)), value)
            rows = carry(form, "json", in_width(octets, 100))
            self.assertEqual(read("json", sum(rows, [])), value)

    def test_exponents_of_many_digits(self):
        far = 10 ** 999 + 3
        for e in (far, -far):
            value = ("list", (("number", 7, e), ("number", -15, e)))
            self.check_everywhere(value)
            self.assertEqual(lacks("cbor", value), 1)


class DepthTest(LongTest):
    def test_depth_24(self):
        chance = random.Random(501)
        value = ("bytes", (1,) * 3000)
        for _ in range(23):
            value = ("list", (value, ("bytes", (chance.randint(0, 255),))))
        self.check_everywhere(value)
        value = ONE
        for level in range(24):
            value = ("map", (((97,) * 10, value),)) if level % 2 else ("list", (ONE, value))
        self.check_everywhere(value)


if __name__ == "__main__":
    unittest.main()
