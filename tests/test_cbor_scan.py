import struct
import unittest
from fractions import Fraction

from formsalike.cbortree.read import read_cbor
from formsalike.cbortree.scan import CborScanner
from tests import cbororacle, scanning
from tests.scanning import CLOSE, LIST, MAP, key, leaf

BREAK = b"\xff"
FAR = 10 ** 9
NULL, TRUE, FALSE = leaf("null"), leaf("truth", True), leaf("truth", False)

# The first octets of values: all but infos 28 to 30, infos and tags that mean nothing, and the break.
WITH_ARGUMENT = [major * 32 + info for major in range(6) for info in range(28)]
TAGS = [0xC2, 0xC3, 0xC4, 0xD8, 0xD9, 0xDA, 0xDB]
ENDLESS = [0x5F, 0x7F, 0x9F, 0xBF]
SIMPLE = [0xF4, 0xF5, 0xF6, 0xF9, 0xFA, 0xFB]
FIRST = WITH_ARGUMENT + TAGS + ENDLESS + SIMPLE


def number(m, e=0):
    return leaf("number", m, e)


def octets_of(octets):
    return leaf("bytes", tuple(octets))


def text_of(string):
    return leaf("text", tuple(map(ord, string)))


def heads(major, argument):
    """All heads with the argument, the shortest one first."""
    found = [bytes([major * 32 + argument])] if argument < 24 else []
    for at, many in enumerate((1, 2, 4, 8)):
        if argument < 256 ** many:
            found.append(bytes([major * 32 + 24 + at]) + argument.to_bytes(many, "big"))
    return found


class CborScanTest(scanning.ScanTest):
    scanner_class = CborScanner
    reader = staticmethod(read_cbor)
    oracle = cbororacle

    def check_leaf(self, octets, *value):
        """The octets write the value, whose event comes with the last one."""
        self.check_events(octets, {len(octets) - 1: [("leaf", value)]})
        self.check_value(b"\x81" + octets, ("list", (value,)))

    def check_number(self, octets, m, e=0):
        self.check_leaf(octets, "number", m, e)


class HeadsTest(CborScanTest):
    def test_first_octets(self):
        self.check_can_stand(b"", FIRST)
        self.check_can_stand(b"\x81", FIRST)
        self.check_can_stand(b"\x82\xf6", FIRST)
        self.check_can_stand(b"\x9f", FIRST + [255])
        self.check_can_stand(b"\x9f\xf6", FIRST + [255])
        self.check_can_stand(b"\xa1\x60", FIRST)
        self.check_can_stand(b"\xbf\x60", FIRST)

    def test_infos_that_fail(self):
        for major in range(8):
            for info in (28, 29, 30):
                self.check_fails(bytes([major * 32 + info]) + b"\0" * 9, 0)
                self.check_fails(b"\x82\xf6" + bytes([major * 32 + info]), 2)
        for octet in (0x1F, 0x3F, 0xDF, 0xFF):
            self.check_fails(bytes([octet]), 0)
            self.check_fails(b"\x82\xf6" + bytes([octet]), 2)
        for info in [*range(20), 23, 24, 28, 29, 30, 31]:
            self.check_fails(bytes([0xE0 + info, 0, 0]), 0)

    def test_integers_in_heads_of_every_width(self):
        for n in (0, 1, 9, 22, 23, 24, 255, 256, 65535, 65536, 2 ** 32 - 1, 2 ** 32, 2 ** 64 - 1):
            for octets in heads(0, n):
                self.check_number(octets, *cbororacle.number_of(n, 0)[1:])
                self.check_ends_too_early(octets[:-1])
            for octets in heads(1, n):
                self.check_number(octets, *cbororacle.number_of(-1 - n, 0)[1:])
                self.check_ends_too_early(octets[:-1])

    def test_the_highest_octet_comes_first(self):
        self.check_number(b"\x19\x01\x02", 258)
        self.check_number(b"\x1a\x01\x02\x03\x04", 16909060 // 10, 1)
        self.check_number(b"\x3b\x01\x02\x03\x04\x05\x06\x07\x08", -72623859790382857)

    def test_lengths_in_heads_of_every_width(self):
        for head in heads(2, 3):
            self.check_leaf(head + b"abc", "bytes", (97, 98, 99))
        for head in heads(3, 3):
            self.check_leaf(head + b"abc", "text", (97, 98, 99))
        for head in heads(4, 2):
            self.check_value(head + b"\x01\x02", ("list", (("number", 1, 0), ("number", 2, 0))))
        for head in heads(5, 1):
            for of_key in heads(3, 1):
                self.check_value(head + of_key + b"k\xf6", ("map", (((107,), ("null",)),)))
        for head in heads(6, 2):
            for of_bytes in heads(2, 1):
                self.check_number(head + of_bytes + b"\x07", 7)
        for head in heads(6, 4):
            for pair in heads(4, 2):
                self.check_number(head + pair + b"\x20\x07", 7, -1)

    def test_huge_lengths_end_too_early(self):
        for octets in (b"\x5b" + b"\xff" * 8, b"\x7b" + b"\xff" * 8, b"\x9b" + b"\xff" * 8, b"\xbb" + b"\xff" * 8,
                       b"\x9a\x00\x01\x00\x00\xf6"):
            self.check_ends_too_early(octets)


class EventPlacesTest(CborScanTest):
    def test_leaves_with_the_last_octet(self):
        self.check_events(b"\xf6", {0: [NULL]})
        self.check_events(b"\xf4", {0: [FALSE]})
        self.check_events(b"\xf5", {0: [TRUE]})
        self.check_events(b"\x19\x01\x00", {2: [number(256)]})
        self.check_events(b"\x43abc", {3: [octets_of(b"abc")]})
        self.check_events(b"\x63abc", {3: [text_of("abc")]})
        self.check_events(b"\xf9\x3c\x00", {2: [number(1)]})
        self.check_events(b"\xc2\x42\x01\x00", {3: [number(256)]})
        self.check_events(b"\xc4\x82\x20\x18\xff", {4: [number(255, -1)]})

    def test_empty_strings_with_their_head(self):
        self.check_events(b"\x40", {0: [octets_of(b"")]})
        self.check_events(b"\x60", {0: [text_of("")]})
        self.check_events(b"\x58\x00", {1: [octets_of(b"")]})
        self.check_events(b"\x79\x00\x00", {2: [text_of("")]})
        self.check_events(b"\xc2\x40", {1: [number(0)]})
        self.check_events(b"\xa1\x60\x60", {0: [MAP], 1: [key("")], 2: [text_of(""), CLOSE]})

    def test_indefinite_strings_with_the_break(self):
        self.check_events(b"\x5f\xff", {1: [octets_of(b"")]})
        self.check_events(b"\x7f\x61a\x60\xff", {4: [text_of("a")]})
        self.check_events(b"\xbf\x7f\x61k\xff\xf6\xff", {0: [MAP], 4: [key("k")], 5: [NULL], 6: [CLOSE]})

    def test_open_with_the_last_octet_of_the_head(self):
        self.check_events(b"\x81\xf6", {0: [LIST], 1: [NULL, CLOSE]})
        self.check_events(b"\x98\x01\xf6", {1: [LIST], 2: [NULL, CLOSE]})
        self.check_events(b"\x9b\0\0\0\0\0\0\0\x01\xf6", {8: [LIST], 9: [NULL, CLOSE]})
        self.check_events(b"\xb9\0\x01\x60\xf6", {2: [MAP], 3: [key("")], 4: [NULL, CLOSE]})
        self.check_events(b"\x9f\xff", {0: [LIST], 1: [CLOSE]})
        self.check_events(b"\xbf\xff", {0: [MAP], 1: [CLOSE]})

    def test_empty_ones_close_with_their_head(self):
        self.check_events(b"\x80", {0: [LIST, CLOSE]})
        self.check_events(b"\xa0", {0: [MAP, CLOSE]})
        self.check_events(b"\x98\x00", {1: [LIST, CLOSE]})
        self.check_events(b"\xba\0\0\0\0", {4: [MAP, CLOSE]})

    def test_several_that_end_at_once(self):
        self.check_events(b"\x81\x81\x81\xf6", {0: [LIST], 1: [LIST], 2: [LIST], 3: [NULL, CLOSE, CLOSE, CLOSE]})
        self.check_events(b"\x81\xa1\x60\x80", {0: [LIST], 1: [MAP], 2: [key("")], 3: [LIST, CLOSE, CLOSE, CLOSE]})
        self.check_events(b"\x81\x81\x9f\xff", {0: [LIST], 1: [LIST], 2: [LIST], 3: [CLOSE, CLOSE, CLOSE]})
        self.check_events(b"\x9f\x81\x80\xff", {0: [LIST], 1: [LIST], 2: [LIST, CLOSE, CLOSE], 3: [CLOSE]})
        self.check_events(b"\x82\x81\xa0\xf6", {0: [LIST], 1: [LIST], 2: [MAP, CLOSE, CLOSE], 3: [NULL, CLOSE]})
        self.check_events(b"\x81\xa1\x60\x43abc", {
            0: [LIST], 1: [MAP], 2: [key("")], 6: [octets_of(b"abc"), CLOSE, CLOSE]})
        self.check_events(b"\x81" * 23 + b"\x80", {
            **{at: [LIST] for at in range(23)}, 23: [LIST] + [CLOSE] * 24})

    def test_keys_in_the_order_of_the_text(self):
        self.check_events(b"\xa3\x61b\x01\x60\x02\x61a\x03", {
            0: [MAP], 2: [key("b")], 3: [number(1)], 4: [key("")], 5: [number(2)], 7: [key("a")],
            8: [number(3), CLOSE]})


class FloatsTest(CborScanTest):
    def test_half(self):
        for octets, m, e in ((b"\x00\x00", 0, 0), (b"\x80\x00", 0, 0), (b"\x3c\x00", 1, 0), (b"\xbe\x00", -15, -1),
                             (b"\x7b\xff", 65504, 0), (b"\x4b\x20", 1425, -2), (b"\x49\x00", 1, 1)):
            self.check_number(b"\xf9" + octets, m, e)
        self.check_number(b"\xf9\x00\x01", 5 ** 24, -24)
        self.check_number(b"\xf9\x04\x00", 5 ** 14, -14)

    def test_single(self):
        for octets, m, e in ((b"\0\0\0\0", 0, 0), (b"\x80\0\0\0", 0, 0), (b"\x47\xc3\x50\x00", 1, 5),
                             (b"\xc0\x83\x33\x33", *self.worth(">f", b"\xc0\x83\x33\x33")),
                             (b"\x7f\x7f\xff\xff", *self.worth(">f", b"\x7f\x7f\xff\xff"))):
            self.check_number(b"\xfa" + octets, m, e)
        self.check_number(b"\xfa\0\0\0\x01", 5 ** 149, -149)

    def test_double(self):
        for octets in (b"\x3f\xf1\x99\x99\x99\x99\x99\x9a", b"\xc0\x10\x66\x66\x66\x66\x66\x66",
                       b"\x7f\xef\xff\xff\xff\xff\xff\xff", b"\x7e\x37\xe4\x3c\x88\x00\x75\x9c"):
            self.check_number(b"\xfb" + octets, *self.worth(">d", octets))
        self.check_number(b"\xfb" + bytes(8), 0, 0)
        self.check_number(b"\xfb\x80" + bytes(7), 0, 0)
        self.check_number(b"\xfb" + bytes(7) + b"\x01", 5 ** 1074, -1074)

    def worth(self, sign, octets):
        m, e = Fraction(struct.unpack(sign, octets)[0]), 0
        while m.denominator > 1:
            m, e = m * 10, e - 1
        return cbororacle.number_of(int(m), e)[1:]

    def test_infinities_and_what_is_no_number(self):
        for octets in (b"\xf9\x7c\x00", b"\xf9\xfc\x00", b"\xf9\x7e\x00", b"\xf9\x7c\x01", b"\xf9\xff\xff",
                       b"\xfa\x7f\x80\0\0", b"\xfa\xff\x80\0\0", b"\xfa\x7f\xc0\0\0", b"\xfa\x7f\x80\0\x01",
                       b"\xfb\x7f\xf0" + bytes(6), b"\xfb\xff\xf0" + bytes(6), b"\xfb\x7f\xf8" + bytes(6),
                       b"\xfb" + b"\xff" * 8):
            self.check_fails(octets, len(octets) - 1)
            self.check_fails(b"\x82\xf6" + octets, len(octets) + 1)
            self.check_fails(b"\xbf\x60" + octets + b"\xff", len(octets) + 1)


class StringsTest(CborScanTest):
    def test_any_octets_in_bytes(self):
        self.check_leaf(b"\x59\x01\x00" + bytes(range(256)), "bytes", tuple(range(256)))
        self.check_leaf(b"\x5f\x43\xff\x5f\x00\x41\xff\xff", "bytes", (255, 0x5F, 0, 255))

    def test_no_chunk(self):
        self.check_leaf(b"\x5f\xff", "bytes", ())
        self.check_leaf(b"\x7f\xff", "text", ())
        self.check_value(b"\xa1\x7f\xff\xf6", ("map", (((), ("null",)),)))

    def test_chunks(self):
        self.check_leaf(b"\x5f\x40\x58\x00\x40\xff", "bytes", ())
        self.check_leaf(b"\x5f\x40\x42ab\x40\x58\x01c\x40\xff", "bytes", (97, 98, 99))
        self.check_leaf(b"\x7f\x60\x62ab\x60\x78\x01c\x60\xff", "text", (97, 98, 99))
        self.check_leaf(b"\x7f\x62\xc3\xa9\x63\xe2\x82\xac\xff", "text", (0xE9, 0x20AC))
        for head in heads(2, 2):
            self.check_leaf(b"\x5f" + head + b"ab" + head + b"cd\xff", "bytes", tuple(b"abcd"))

    def test_what_can_stand_in_the_place_of_a_chunk(self):
        for before in (b"\x5f", b"\x5f\x40", b"\x5f\x41a", b"\xc2\x5f", b"\xc2\x5f\x41a", b"\xc4\x82\x00\xc3\x5f"):
            self.check_can_stand(before, [*range(0x40, 0x5C), 255])
        for before in (b"\x7f", b"\x7f\x60", b"\x7f\x61a", b"\xa1\x7f", b"\xbf\x7f\x61a"):
            self.check_can_stand(before, [*range(0x60, 0x7C), 255])

    def test_chunks_of_indefinite_length_fail(self):
        self.check_fails(b"\x5f\x5f\xff\xff", 1)
        self.check_fails(b"\x7f\x61a\x7f\xff\xff", 3)

    def test_utf8(self):
        self.check_leaf(b"\x68a\xe2\x82\xac\xf0\x9f\x98\x80", "text", (97, 0x20AC, 0x1F600))
        begins = set(range(128)) | set(range(0xC2, 0xF5))
        for before in (b"\x65", b"\x65a", b"\xa1\x65", b"\x7f\x65", b"\x7f\x61a\x65", b"\x65\xc3\xa9"):
            self.check_can_stand(before, begins)
        for before in (b"\x65", b"\xa1\x65", b"\x7f\x65"):
            self.check_can_stand(before + b"\xe0", range(0xA0, 0xC0))
            self.check_can_stand(before + b"\xed", range(0x80, 0xA0))
            self.check_can_stand(before + b"\xf0", range(0x90, 0xC0))
            self.check_can_stand(before + b"\xf4", range(0x80, 0x90))
            self.check_can_stand(before + b"\xf1\x80", range(0x80, 0xC0))

    def test_texts_that_end_within_a_character(self):
        self.check_can_stand(b"\x61", range(128))
        self.check_can_stand(b"\xa1\x61", range(128))
        self.check_can_stand(b"\x7f\x61", range(128))
        self.check_fails(b"\x62\xe2\x82\xac", 2)
        self.check_fails(b"\x63\xf0\x9f\x98\x80", 3)
        self.check_fails(b"\xa1\x62\xe2\x82\xf6", 3)
        self.check_fails(b"\x7f\x61\xc3\x61\xa9\xff", 2)
        self.check_fails(b"\x7f\x61a\x62\xe2\x82\x61\xac\xff", 5)
        self.check_fails(b"\xbf\x7f\x61\xc3\x61\xa9\xff\xf6\xff", 3)

    def test_texts_that_are_not_utf8(self):
        for octets, place in ((b"\x61\x80", 1), (b"\x62\xc0\x80", 1), (b"\x62\xc3\x28", 2), (b"\x63\xed\xa0\x80", 2),
                              (b"\x64\xf4\x90\x80\x80", 2), (b"\x63a\xffb", 2), (b"\x7f\x62a\xff\xff", 3)):
            self.check_fails(octets, place)
            self.check_fails(b"\xa1" + octets + b"\xf6", place + 1)


class TagsTest(CborScanTest):
    def test_tags_that_fail(self):
        for tag in (0, 1, 5, 6, 23, 24, 247, 255, 256, 258, 2 ** 32 + 2, 2 ** 64 - 1):
            for head in heads(6, tag):
                self.check_fails(head + b"\x40", len(head) - 1)
                self.check_fails(b"\x82\xf6" + head + b"\x40", len(head) + 1)
        self.check_fails(b"\xd9\xd9\xf7\x01", 2)

    def test_large_integers(self):
        for octets, n in ((b"\x40", 0), (b"\x41\x00", 0), (b"\x41\x01", 1), (b"\x42\x01\x00", 256),
                          (b"\x43\x00\x00\x05", 5), (b"\x49\x01" + bytes(8), 2 ** 64),
                          (b"\x48" + b"\xff" * 8, 2 ** 64 - 1),
                          (b"\x5f\xff", 0), (b"\x5f\x41\x01\x40\x42\x02\x03\xff", 66051), (b"\x5f\x40\xff", 0),
                          (b"\x59\x04\xb0" + b"\x01" + bytes(1199), 256 ** 1199)):
            self.check_number(b"\xc2" + octets, *cbororacle.number_of(n, 0)[1:])
            self.check_number(b"\xc3" + octets, *cbororacle.number_of(-1 - n, 0)[1:])

    def test_what_large_integers_begin_with(self):
        wanted = [*range(0x40, 0x5C), 0x5F]
        for before in (b"\xc2", b"\xc3", b"\xd8\x02", b"\x81\xc3", b"\xc4\x82\x00\xc2", b"\xc4\x82\x00\xc3"):
            self.check_can_stand(before, wanted)

    def test_decimal_numbers(self):
        for octets, m, e in ((b"\x20\x0f", 15, -1), (b"\x00\x00", 0, 0), (b"\x20\x00", 0, 0), (b"\x01\x01", 1, 1),
                             (b"\x21\x19\x6a\xb3", 27315, -2), (b"\x02\x2e", -15, 2), (b"\x21\x19\x03\xe8", 1, 1),
                             (b"\x20\x18\x64", 1, 1), (b"\x38\x63\x01", 1, -100), (b"\x19\x00\x05\x38\x63", -1, 7),
                             (b"\x00\xc2\x42\x01\x00", 256, 0), (b"\x20\xc3\x49\x01" + bytes(8), -1 - 2 ** 64, -1),
                             (b"\x03\xc2\x5f\x41\x01\x41\x00\xff", 256, 3), (b"\x25\xc2\x40", 0, 0),
                             (b"\x25\xc3\x5f\xff", -1, -6), (b"\x22\x39\x13\x87", -5, 0),
                             (b"\x1b" + bytes(7) + b"\x02\x04", 4, 2)):
            self.check_number(b"\xc4\x82" + octets, m, e)
            self.check_number(b"\xd8\x04\x98\x02" + octets, m, e)

    def test_the_list_of_a_decimal_number(self):
        self.check_can_stand(b"\xc4", [0x82, 0x98, 0x99, 0x9A, 0x9B])
        self.check_can_stand(b"\xc4\x98", [2])
        self.check_can_stand(b"\xc4\x99\x00", [2])
        self.check_can_stand(b"\xc4\x9b\0\0\0\0\0\0\0", [2])
        self.check_fails(b"\xc4\x99\x02\x00\x00\x00", 3)
        self.check_fails(b"\xc4\x9f\x00\x00\xff", 1)
        self.check_fails(b"\xc4\x83\x00\x00\x00", 1)
        self.check_fails(b"\xc4\x81\x00", 1)

    def test_heads_with_the_wrong_argument_fail_at_their_last_octet(self):
        for many in (0, 1, 3, 24, 255):
            for head in heads(4, many):
                self.check_fails(b"\xc4" + head + b"\x00\x00", len(head))

    def test_the_exponent(self):
        self.check_can_stand(b"\xc4\x82", [*range(0x1C), *range(0x20, 0x3C)])
        self.check_can_stand(b"\xd8\x04\x98\x02", [*range(0x1C), *range(0x20, 0x3C)])
        self.check_fails(b"\xc4\x82\xc2\x41\x01\x01", 2)
        self.check_fails(b"\xc4\x82\xf9\x3c\x00\x01", 2)

    def test_the_mantissa(self):
        wanted = [*range(0x1C), *range(0x20, 0x3C), 0xC2, 0xC3, 0xD8, 0xD9, 0xDA, 0xDB]
        self.check_can_stand(b"\xc4\x82\x00", wanted)
        self.check_can_stand(b"\xc4\x82\x39\x00\x01", wanted)
        for tag in (0, 1, 4, 5, 23, 24, 258):
            for head in heads(6, tag):
                self.check_fails(b"\xc4\x82\x00" + head + b"\x40", len(head) + 2)
        for head in heads(6, 3):
            self.check_number(b"\xc4\x82\x20" + head + b"\x41\x01", -2, -1)
        for octets in (b"\x41\x01", b"\x61\x31", b"\x80", b"\xa0", b"\xf9\x3c\x00", b"\xf6", b"\xff"):
            self.check_fails(b"\xc4\x82\x00" + octets, 3)

    def test_nothing_stands_behind_the_mantissa(self):
        self.check_fails(b"\xc4\x82\x20\x01\x00", 4)
        self.check_fails(b"\xc4\x82\x20\xc2\x40\x00", 5)
        self.check_fails(b"\xc2\x40\x00", 2)

    def test_exponents_in_normal_form(self):
        far, low = (FAR).to_bytes(4, "big"), (FAR - 1).to_bytes(4, "big")
        more, lower = (FAR + 1).to_bytes(4, "big"), (FAR).to_bytes(4, "big")
        self.check_number(b"\xc4\x82\x1a" + far + b"\x07", 7, FAR)
        self.check_number(b"\xc4\x82\x3a" + low + b"\x07", 7, -FAR)
        self.check_fails(b"\xc4\x82\x1a" + more + b"\x07", 7)
        self.check_fails(b"\xc4\x82\x3a" + lower + b"\x07", 7)
        self.check_number(b"\xc4\x82\x3a" + lower + b"\x0a", 1, -FAR)
        self.check_number(b"\xc4\x82\x3a" + lower + b"\x18\x64", 1, 1 - FAR)
        self.check_number(b"\xc4\x82\x3a" + (FAR + 1).to_bytes(4, "big") + b"\x38\x63", -1, -FAR)
        self.check_fails(b"\xc4\x82\x1a" + far + b"\x0a", 7)
        self.check_fails(b"\xc4\x82\x1a" + far + b"\x18\x64", 8)
        self.check_number(b"\xc4\x82\x1a" + low + b"\x0a", 1, FAR)
        self.check_fails(b"\xc4\x82\x1a" + low + b"\x18\x64", 8)

    def test_far_exponents_of_zero(self):
        self.check_number(b"\xc4\x82\x1b" + b"\xff" * 8 + b"\x00", 0, 0)
        self.check_number(b"\xc4\x82\x3b" + b"\xff" * 8 + b"\xc2\x41\x00", 0, 0)
        self.check_number(b"\xc4\x82\x3a" + FAR.to_bytes(4, "big") + b"\x18\x00", 0, 0)

    def test_far_exponents_fail_at_the_last_octet_of_the_mantissa(self):
        begin = b"\xc4\x82\x1b" + b"\xff" * 8
        for mantissa in (b"\x01", b"\x20", b"\x19\x00\x07", b"\xc2\x42\x01\x00", b"\xc2\x5f\x41\x01\xff", b"\xc3\x40"):
            self.check_fails(begin + mantissa + b"\x00", len(begin) + len(mantissa) - 1)
            self.check_fails(b"\x81" + begin + mantissa, len(begin) + len(mantissa))

    def test_an_exponent_beyond_64_bits(self):
        self.check_fails(b"\xc4\x82\x3b" + b"\xff" * 8 + b"\xc2\x41\x0a", 13)


class PlacesTest(CborScanTest):
    def test_octets_behind_the_value(self):
        for whole in (b"\xf6", b"\x00", b"\x40", b"\x61a", b"\x80", b"\xa0", b"\x9f\xff", b"\xbf\xff", b"\x5f\xff",
                      b"\xc2\x40", b"\xf9\x00\x00", b"\x81\xf6"):
            self.check_can_stand(whole, b"")

    def test_breaks_in_other_places(self):
        for octets, place in ((b"\xff", 0), (b"\x81\xff", 1), (b"\x82\xf6\xff", 2), (b"\xa1\xff", 1),
                              (b"\xa1\x60\xff", 2),
                              (b"\xbf\x60\xff", 2), (b"\xbf\x61a\xff", 3), (b"\x9f\x81\xff", 2), (b"\x9f\xff\xff", 2),
                              (b"\xbf\x60\xf6\x61a\xff", 5), (b"\xc2\xff", 1), (b"\xc4\xff", 1), (b"\xc4\x82\xff", 2),
                              (b"\xc4\x82\x00\xff", 3), (b"\x9f\xc2\xff", 2)):
            self.check_fails(octets, place)

    def test_a_break_within_octets_is_none(self):
        self.check_value(b"\x9f\x18\xff\x41\xff\xff", ("list", (("number", 255, 0), ("bytes", (255,)))))

    def test_what_can_stand_in_the_place_of_a_key(self):
        keys = [*range(0x60, 0x7C), 0x7F]
        self.check_can_stand(b"\xa1", keys)
        self.check_can_stand(b"\xa2\x61a\xf6", keys)
        self.check_can_stand(b"\xbf", keys + [255])
        self.check_can_stand(b"\xbf\x61a\xf6", keys + [255])
        self.check_can_stand(b"\xbf\x61a\x80", keys + [255])
        self.check_can_stand(b"\xbf\x61a\xa0", keys + [255])
        self.check_can_stand(b"\xbf\x61a\x9f\xff", keys + [255])

    def test_keys_again(self):
        self.check_fails(b"\xa2\x61a\x01\x61a\x02", 5)
        self.check_fails(b"\xa2\x60\x01\x60\x02", 3)
        self.check_fails(b"\xa2\x60\x01\x78\x00\x02", 4)
        self.check_fails(b"\xa2\x60\x01\x7f\xff\x02", 4)
        self.check_fails(b"\xa2\x7f\x60\xff\x01\x60\x02", 5)
        self.check_fails(b"\xbf\x62ab\x01\x7f\x61a\x61b\xff\x02\xff", 10)
        self.check_fails(b"\xbf\x61a\x01\x61b\x01\x79\x00\x01a\x02\xff", 10)
        self.check_fails(b"\xa2\x61a\xa2\x61a\x01\x61b\x02\x61a\x03", 11)
        self.check_fails(b"\x81\xa2\x63\xe2\x82\xac\xf6\x63\xe2\x82\xac\xf6", 10)

    def test_keys_that_another_map_has(self):
        for octets in (b"\xa1\x61a\xa1\x61a\xa1\x61a\xf6", b"\x82\xa1\x61a\xf6\xa1\x61a\xf6",
                       b"\xa4\x61a\xf6\x61A\xf6\x62aa\xf6\x60\xf6", b"\xa2\x61a\xa1\x61b\xf6\x61b\xf6"):
            self.check_taken(octets)

    def test_levels(self):
        self.check_levels("cbor", [(b"\x81", 0), (b"\x9f", 0), (b"\xa1\x60", 0), (b"\xbf\x60", 0), (b"\x98\x05", 0),
                                   (b"\xbb" + bytes(7) + b"\x01\x60", 0)])
        for head in (b"\x80", b"\x98\x00", b"\x9f", b"\xa0", b"\xb9\x00\x00", b"\xbf"):
            self.check_fails(b"\x81" * 24 + head, 24)

    def test_a_wrong_head_of_a_25th_level(self):
        for octet in (0x9C, 0xBE):
            self.check_fails(b"\x81" * 24 + bytes([octet]), 24)

    def test_closed_levels_do_not_count(self):
        self.check_taken(b"\x83" + (b"\x81" * 22 + b"\x80") * 3)
        self.check_taken(b"\x9f" + (b"\x9f" * 23 + b"\xff" * 23) * 3 + b"\xff")

    def test_the_list_of_a_decimal_number_is_no_level(self):
        for levels in (0, 1, 22, 23, 24):
            octets = b"\x81" * levels + b"\xc4\x82\x20\x05"
            self.check_events(octets, {**{at: [LIST] for at in range(levels)},
                                       levels + 3: [number(5, -1)] + [CLOSE] * levels})

    def test_ends_too_early(self):
        for whole in (b"\x9f\x19\x01\x00\x5f\x42ab\x40\xff\xbf\x63\xe2\x82\xac\x7f\x61a\xff\xff\xff",
                      b"\x83\xf9\x3c\x00\xfa\x47\xc3\x50\x00\xfb\x3f\xf1\x99\x99\x99\x99\x99\x9a",
                      b"\xa2\x61a\xc4\x82\x20\xc2\x42\x01\x00\x7f\xff\xd8\x03\x5f\x40\x41\x01\xff",
                      b"\xd8\x04\x99\x00\x02\x38\x63\xda\x00\x00\x00\x02\x41\x05", b"\xf6", b"\x80",
                      b"\x9b" + bytes(8)):
            self.check_beginnings(whole)
        self.check_ends_too_early(b"")


class AgainstTheOracleTest(CborScanTest):
    def test_texts_of_values(self):
        self.check_random_texts("cbor", 73, 2500)

    def test_spoiled_texts(self):
        pool = list(b"\x00\x01\x17\x18\x19\x1b\x20\x38\x40\x41\x5f\x60\x61\x7f\x80\x81\x82\x9f\xa0\xa1\xbf\xc2\xc3\xc4"
                    b"\xd8\xf4\xf6\xf9\xff") + list(range(256))
        self.check_spoiled_texts("cbor", 74, 5000, pool)

    def test_octets_at_random(self):
        pools = (b"\x80\x81\x82\x9f\xa1\xbf\x60\x61\xff\x00", b"\xc2\xc3\xc4\x82\x00\x20\x40\x41\x5f\xff\x18",
                 b"\x5f\x7f\x40\x41\x60\x61\x62\xc3\xa9\xff", bytes(range(256)))
        self.check_octets_at_random(75, 3000, [b"", b"\x81", b"\xbf", b"\xc4\x82", b"\x7f"], pools)


class ObjectsTest(CborScanTest):
    def test_two_side_by_side(self):
        ones = b"\xa2\x61a\x9f\xc4\x82\x20\x18\xff\x7f\x61x\xff\xff\x61b\x19\x01\x00"
        twos = b"\x9f\xbf\x61a\xc2\x42\x01\x00\x61b\x80\xff\x5f\x42ab\xff\xf9\x3c\x00\xff"
        self.check_side_by_side(ones, twos)
        self.check_side_by_side(twos, ones)

    def test_returned_lists(self):
        for octets in (b"\xf6", b"\x81\x81\x80",
                       b"\xa2\x61a\x9f\xc4\x82\x20\x18\xff\x7f\x61x\xff\xff\x61b\x19\x01\x00"):
            self.check_returned_lists(octets)
            self.check_kinds_of_events(octets)

    def test_a_long_text(self):
        octets = b"\x99\x07\xd0" + b"\xa1\x63key\x83\xf6\xc4\x82\x20\x2e\x44text" * 2000
        inner = ("list", (("null",), ("number", -15, -1), ("bytes", tuple(b"text"))))
        self.check_value(octets, ("list", (("map", ((tuple(b"key"), inner),)),) * 2000))


if __name__ == "__main__":
    unittest.main()
