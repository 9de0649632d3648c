import random
import unittest

from formsalike.cbortree.read import read_cbor
from formsalike.cbortree.scan import CborScanner
from formsalike.cbortree.write import write_cbor
from tests import cbororacle, reading, samples

NULL = ("null",)
FAR = 10 ** 9


def heads(major, argument):
    """All heads with the argument, the shortest one first."""
    found = [bytes([major * 32 + argument])] if argument < 24 else []
    for at, many in enumerate((1, 2, 4, 8)):
        if argument < 256 ** many:
            found.append(bytes([major * 32 + 24 + at]) + argument.to_bytes(many, "big"))
    return found


class CborReadTest(reading.ReadTest):
    reader = staticmethod(read_cbor)
    scanner_class = CborScanner
    oracle = cbororacle
    form = "cbor"

    def check_leaf(self, octets, *value):
        """The octets write the value, alone, in a list and in a map."""
        self.check_value(octets, *value)
        self.check_value(b"\x82" + octets * 2, "list", (value, value))
        self.check_value(b"\xbf\x61k" + octets + b"\xff", "map", (((107,), value),))

    def check_number(self, octets, m, e=0):
        self.check_leaf(octets, "number", m, e)

    def check_fails_anywhere(self, octets, index):
        """The octet at the index fails, also in a list and in a map."""
        self.check_fails(octets, index)
        self.check_fails(b"\x83\xf6" + octets, index + 2)
        self.check_fails(b"\xbf\x61k" + octets, index + 3)

    def check_pair(self, octets, m, e):
        """Exponent and mantissa of a decimal number."""
        for tag in heads(6, 4):
            for many in heads(4, 2):
                self.check_value(tag + many + octets, "number", m, e)
        self.check_number(b"\xc4\x82" + octets, m, e)

    def check_pair_fails(self, octets, index):
        self.check_fails_anywhere(b"\xc4\x82" + octets, index + 2)


class NumbersTest(CborReadTest):
    def test_integers_in_heads_of_every_width(self):
        for n in (0, 1, 22, 23, 24, 255, 256, 65535, 65536, 2 ** 32 - 1, 2 ** 32, 2 ** 64 - 1):
            for octets in heads(0, n):
                self.check_number(octets, *cbororacle.number_of(n, 0)[1:])
            for octets in heads(1, n):
                self.check_number(octets, *cbororacle.number_of(-1 - n, 0)[1:])

    def test_large_integers(self):
        for octets, n in ((b"\x40", 0), (b"\x41\x00", 0), (b"\x42\x01\x00", 256), (b"\x43\x00\x00\x05", 5),
                          (b"\x58\x01\x07", 7), (b"\x49\x01" + bytes(8), 2 ** 64), (b"\x5f\xff", 0),
                          (b"\x5f\x40\xff", 0),
                          (b"\x5f\x41\x01\x40\x42\x02\x03\xff", 66051),
                          (b"\x59\x04\xb0\x01" + bytes(1199), 256 ** 1199)):
            for tag in heads(6, 2):
                self.check_value(tag + octets, *cbororacle.number_of(n, 0))
            for tag in heads(6, 3):
                self.check_value(tag + octets, *cbororacle.number_of(-1 - n, 0))
            self.check_number(b"\xc2" + octets, *cbororacle.number_of(n, 0)[1:])

    def test_decimal_numbers(self):
        for octets, m, e in ((b"\x20\x0f", 15, -1), (b"\x00\x00", 0, 0), (b"\x25\x00", 0, 0), (b"\x01\x01", 1, 1),
                             (b"\x21\x19\x6a\xb3", 27315, -2), (b"\x02\x2e", -15, 2), (b"\x21\x19\x03\xe8", 1, 1),
                             (b"\x38\x63\x01", 1, -100), (b"\x19\x00\x05\x38\x63", -1, 7),
                             (b"\x00\xc2\x42\x01\x00", 256, 0),
                             (b"\x20\xc3\x49\x01" + bytes(8), -1 - 2 ** 64, -1),
                             (b"\x03\xc2\x5f\x41\x01\x41\x00\xff", 256, 3),
                             (b"\x25\xc2\x40", 0, 0), (b"\x25\xc3\x5f\xff", -1, -6), (b"\x20\xd8\x02\x41\x07", 7, -1)):
            self.check_pair(octets, m, e)

    def test_exponents_in_normal_form(self):
        def pair(exponent, mantissa):
            major, n = (0, exponent) if exponent >= 0 else (1, -1 - exponent)
            return bytes([major * 32 + 26]) + n.to_bytes(4, "big") + mantissa

        self.check_pair(pair(FAR, b"\x07"), 7, FAR)
        self.check_pair(pair(-FAR, b"\x26"), -7, -FAR)
        self.check_pair(pair(FAR - 1, b"\x0a"), 1, FAR)
        self.check_pair(pair(-FAR - 1, b"\x0a"), 1, -FAR)
        self.check_pair(pair(-FAR - 2, b"\x38\x63"), -1, -FAR)
        self.check_pair(pair(FAR + 1, b"\x00"), 0, 0)
        self.check_pair(pair(-FAR - 1, b"\xc2\x40"), 0, 0)
        self.check_pair(b"\x1b" + b"\xff" * 8 + b"\x18\x00", 0, 0)
        self.check_pair_fails(pair(FAR + 1, b"\x07"), 5)
        self.check_pair_fails(pair(-FAR - 1, b"\x26"), 5)
        self.check_pair_fails(pair(FAR, b"\x0a"), 5)
        self.check_pair_fails(pair(FAR - 1, b"\x18\x64"), 6)
        self.check_pair_fails(pair(-FAR - 2, b"\x19\x00\x0a"), 7)
        self.check_pair_fails(pair(FAR + 1, b"\xc2\x42\x01\x01"), 8)
        self.check_pair_fails(pair(FAR + 1, b"\xc3\x5f\x41\x01\xff"), 9)
        self.check_pair_fails(pair(FAR + 1, b"\xc3\x40"), 6)

    def test_floats(self):
        for octets, m, e in ((b"\xf9\x00\x00", 0, 0), (b"\xf9\x80\x00", 0, 0), (b"\xf9\x3c\x00", 1, 0),
                             (b"\xf9\xbe\x00", -15, -1),
                             (b"\xf9\x7b\xff", 65504, 0), (b"\xf9\x4b\x20", 1425, -2), (b"\xf9\x00\x01", 5 ** 24, -24),
                             (b"\xfa\x47\xc3\x50\x00", 1, 5), (b"\xfa\x41\xc8\x80\x00", 250625, -4),
                             (b"\xfa\x00\x00\x00\x01", 5 ** 149, -149), (b"\xfb\xbf\xf8" + bytes(6), -15, -1),
                             (b"\xfb\x40\x59" + bytes(6), 1, 2), (b"\xfb" + bytes(7) + b"\x01", 5 ** 1074, -1074),
                             (b"\xfb\x7f\xef" + b"\xff" * 6, *cbororacle.number_of(2 ** 1024 - 2 ** 971, 0)[1:])):
            self.check_number(octets, m, e)

    def test_infinities_and_what_is_no_number(self):
        for octets in (b"\xf9\x7c\x00", b"\xf9\xfc\x00", b"\xf9\x7e\x00", b"\xf9\x7c\x01", b"\xfa\x7f\x80\0\0",
                       b"\xfa\xff\x80\0\0",
                       b"\xfa\x7f\xc0\0\0", b"\xfb\x7f\xf0" + bytes(6), b"\xfb\xff\xf0" + bytes(6),
                       b"\xfb\x7f\xf8" + bytes(6), b"\xfb" + b"\xff" * 8):
            self.check_fails_anywhere(octets, len(octets) - 1)


class KindsTest(CborReadTest):
    def test_null_and_truths(self):
        self.check_leaf(b"\xf6", "null")
        self.check_leaf(b"\xf5", "truth", True)
        self.check_leaf(b"\xf4", "truth", False)

    def test_bytes(self):
        for head in heads(2, 3):
            self.check_leaf(head + b"abc", "bytes", (97, 98, 99))
            self.check_leaf(b"\x5f" + head + b"abc\x40" + head + b"def\xff", "bytes", tuple(b"abcdef"))
        for octets in (b"\x40", b"\x58\x00", b"\x5f\xff", b"\x5f\x40\xff", b"\x5f\x40\x59\x00\x00\xff"):
            self.check_leaf(octets, "bytes", ())
        self.check_leaf(b"\x59\x01\x00" + bytes(range(256)), "bytes", tuple(range(256)))
        self.check_leaf(b"\x5a\x00\x01\x00\x00" + b"x" * 65536, "bytes", (120,) * 65536)

    def test_texts(self):
        for head in heads(3, 3):
            self.check_leaf(head + b"\xe2\x82\xac", "text", (0x20AC,))
            self.check_leaf(b"\x7f" + head + b"\xe2\x82\xac\x60" + head + b"def\xff", "text", (0x20AC, 100, 101, 102))
        for octets in (b"\x60", b"\x78\x00", b"\x7f\xff", b"\x7f\x60\xff", b"\x7f\x60\x79\x00\x00\xff"):
            self.check_leaf(octets, "text", ())
        self.check_leaf(b"\x64\xf0\x9f\x98\x80", "text", (0x1F600,))

    def test_lists(self):
        for octets in (b"\x80", b"\x98\x00", b"\x9b" + bytes(8), b"\x9f\xff"):
            self.check_value(octets, "list", ())
        for head in heads(4, 2):
            self.check_value(head + b"\xf6" + head + b"\xf4\xf5", "list",
                             (NULL, ("list", (("truth", False), ("truth", True)))))
        self.check_value(b"\x9f\xf6\x81\x9f\xff\xff", "list", (NULL, ("list", (("list", ()),))))

    def test_maps(self):
        for octets in (b"\xa0", b"\xb8\x00", b"\xbb" + bytes(8), b"\xbf\xff"):
            self.check_value(octets, "map", ())
        value = ("map", (((), NULL), ((97,), ("map", ())), ((98, 99), ("list", ()))))
        for head in heads(5, 3):
            self.check_value(head + b"\x62bc\x80\x60\xf6\x61a\xa0", *value)
        self.check_value(b"\xbf\x7f\x61a\xff\xbf\xff\x78\x02bc\x9f\xff\x7f\xff\xf6\xff", *value)
        self.check_value(b"\xbf\x60\xf6\x7f\x61b\x60\x61c\xff\x80\x61a\xa0\xff", *value)

    def test_rows(self):
        for octets in (b"\x82\xf6\xa1\x61a\x40", b"", b"\x81", b"\xff", b"\x00\x00", b"\x7f\x61a\xff"):
            self.check_rows(octets)


class PlacesTest(CborReadTest):
    def test_first_octets(self):
        for major in range(8):
            for info in (28, 29, 30):
                self.check_fails_anywhere(bytes([major * 32 + info]) + bytes(9), 0)
        for octet in (0x1F, 0x3F, 0xDF, *range(0xE0, 0xF4), 0xF7, 0xF8, 0xFF):
            self.check_fails_anywhere(bytes([octet]) + bytes(9), 0)

    def test_breaks(self):
        for octets, place in ((b"\xff", 0), (b"\x81\xff", 1), (b"\x82\xf6\xff", 2), (b"\xa1\xff", 1),
                              (b"\xa1\x60\xff", 2),
                              (b"\xbf\x60\xff", 2), (b"\x9f\x81\xff", 2), (b"\x9f\xff\xff", 2),
                              (b"\xbf\x60\xf6\x61a\xff", 5),
                              (b"\xc2\xff", 1), (b"\xc4\xff", 1), (b"\xc4\x82\xff", 2), (b"\xc4\x82\x00\xff", 3)):
            self.check_fails(octets, place)

    def test_chunks(self):
        for octets, index in ((b"\x5f\x5f\xff", 1), (b"\x5f\x61a", 1), (b"\x5f\x00", 1), (b"\x5f\x41a\xf6", 3),
                              (b"\x5f\x5c", 1),
                              (b"\x7f\x7f\xff", 1), (b"\x7f\x41a", 1), (b"\x7f\x61a\x80", 3), (b"\x7f\xc2\x40", 1)):
            self.check_fails_anywhere(octets, index)

    def test_utf8(self):
        for octets, index in ((b"\x61\x80", 1), (b"\x62\xc0\x80", 1), (b"\x62\xc3\x28", 2), (b"\x63\xed\xa0\x80", 2),
                              (b"\x64\xf4\x90\x80\x80", 2), (b"\x63a\xffb", 2), (b"\x61\xc3", 1),
                              (b"\x62\xe2\x82\xac", 2),
                              (b"\x63\xf0\x9f\x98\x80", 3), (b"\x7f\x61\xc3\x61\xa9\xff", 2),
                              (b"\x7f\x61a\x62\xe2\x82\x61\xac\xff", 5), (b"\x78\x03\xe0\x80\x80", 3)):
            self.check_fails_anywhere(octets, index)
            self.check_fails(b"\xa1" + octets, index + 1)
            self.check_fails(b"\xbf\x61k\xf6" + octets, index + 4)

    def test_tags(self):
        for tag in (0, 1, 5, 23, 24, 255, 256, 2 ** 32 + 2, 2 ** 64 - 1):
            for head in heads(6, tag):
                self.check_fails_anywhere(head + b"\x40", len(head) - 1)
        for before in (b"\xc2", b"\xc3", b"\xd8\x03"):
            for octet in (0x00, 0x20, 0x60, 0x80, 0xA0, 0xC2, 0xF6, 0xFF, 0x5C, 0x7F):
                self.check_fails_anywhere(before + bytes([octet]) + b"\x40", len(before))
            self.check_fails_anywhere(before + b"\x5f\x00", len(before) + 1)

    def test_the_list_of_a_decimal_number(self):
        for octets, index in ((b"\xc4\x00", 1), (b"\xc4\x42ab", 1), (b"\xc4\xa1", 1), (b"\xc4\xf6", 1),
                              (b"\xc4\x9f\x00\x00\xff", 1),
                              (b"\xc4\x9c", 1), (b"\xc4\x80", 1), (b"\xc4\x81\x00", 1), (b"\xc4\x83\x00\x00\x00", 1),
                              (b"\xc4\x98\x03\x00\x00\x00", 2), (b"\xc4\x99\x02\x00", 3),
                              (b"\xd8\x04\x9a\0\0\0\x01", 6)):
            self.check_fails_anywhere(octets, index)

    def test_exponent_and_mantissa(self):
        for octet in (0x1C, 0x1F, 0x3F, 0x41, 0x61, 0x80, 0x82, 0xA0, 0xC2, 0xC3, 0xC4, 0xF4, 0xF6, 0xF9, 0xFF):
            self.check_pair_fails(bytes([octet]) + bytes(9), 0)
        for octet in (0x1C, 0x1F, 0x3F, 0x41, 0x61, 0x80, 0x82, 0xA0, 0xC4, 0xC0, 0xDF, 0xF4, 0xF6, 0xF9, 0xFF):
            self.check_pair_fails(b"\x20" + bytes([octet]) + bytes(9), 1)
        for head in heads(6, 4) + heads(6, 5) + heads(6, 300):
            self.check_pair_fails(b"\x20" + head + b"\x40", len(head))
        self.check_pair_fails(b"\x20\xc2\x01", 2)
        self.check_pair_fails(b"\x20\xc2\x61", 2)
        self.check_pair_fails(b"\x20\xc3\x5f\x5f", 3)

    def test_keys(self):
        for octet in (0x00, 0x20, 0x40, 0x5F, 0x7C, 0x80, 0xA0, 0xC2, 0xF6):
            self.check_fails(b"\xa1" + bytes([octet]) + bytes(9), 1)
            self.check_fails(b"\xbf" + bytes([octet]) + bytes(9), 1)
            self.check_fails(b"\xbf\x60\xf6" + bytes([octet]) + bytes(9), 3)

    def test_keys_again(self):
        for octets, place in ((b"\xa2\x61a\x01\x61a\x02", 5), (b"\xa2\x60\x01\x60\x02", 3),
                              (b"\xa2\x60\x01\x78\x00\x02", 4),
                              (b"\xa2\x60\x01\x7f\xff\x02", 4), (b"\xa2\x7f\x60\xff\x01\x60\x02", 5),
                              (b"\xbf\x62ab\x01\x7f\x61a\x61b\xff\x02\xff", 10),
                              (b"\xa2\x61a\xa1\x61a\x01\x61a\x03", 8),
                              (b"\xbf\x61a\x01\x61b\x01\x79\x00\x01a\x02\xff", 10)):
            self.check_fails(octets, place)
        self.check_value(b"\xa1\x61a\xa1\x61a\xa1\x61a\xf6", "map",
                         (((97,), ("map", (((97,), ("map", (((97,), NULL),))),))),))

    def test_octets_behind_the_value(self):
        for octets in (b"\xf6", b"\x00", b"\x18\x18", b"\x40", b"\x61a", b"\x80", b"\xa0", b"\x9f\xff", b"\xbf\xff",
                       b"\x5f\xff", b"\xc2\x40", b"\xc4\x82\x20\x01", b"\xf9\x00\x00", b"\x81\xf6"):
            for behind in (0x00, 0x40, 0x80, 0xF6, 0xFF):
                self.check_fails(octets + bytes([behind]), len(octets))

    def test_beginnings(self):
        self.check_nothing()
        for octets in (b"\x9f\x19\x01\x00\x5f\x42ab\x40\xff\xbf\x63\xe2\x82\xac\x7f\x61a\xff\xff\xff",
                       b"\x83\xf9\x3c\x00\xfa\x47\xc3\x50\x00\xfb\x3f\xf1\x99\x99\x99\x99\x99\x9a",
                       b"\xa2\x61a\xc4\x82\x20\xc2\x42\x01\x00\x7f\xff\xd8\x03\x5f\x40\x41\x01\xff",
                       b"\x9b" + bytes(8)):
            self.check_beginnings(octets)
        for octets in (b"\x18", b"\x1b\0\0\0\0\0\0\0", b"\x41", b"\x5f", b"\x5b" + b"\xff" * 8, b"\x9b" + b"\xff" * 8,
                       b"\xbb" + b"\xff" * 8 + b"\x60\xf6", b"\xc2", b"\xc4", b"\xf9\x00"):
            self.check_ends_too_early(octets)

    def test_depth(self):
        self.check_depth(b"\x9f", b"\xff", [(b"\x9f", 0), (b"\x80", 0), (b"\x98\x00", 0), (b"\xbf", 0), (b"\xa0", 0)])
        value = ("number", 15, -1)
        for _ in range(24):
            value = ("list", (value,))
        self.check_value(b"\x81" * 24 + b"\xc4\x82\x20\x0f", *value)


class WriterTest(CborReadTest):
    def check_written(self, value):
        self.check_value(bytes(write_cbor(value)), *value)

    def test_canonical_texts_are_read_as_the_value(self):
        for value in samples.random_values(101, 1500, "cbor") + samples.SMALL_TREES:
            self.check_written(value)
        for m in (1, -1, 7, 2 ** 64 + 1, -2 ** 64 - 1, 10 ** 1999 + 1, 1 - 10 ** 2000):
            for e in (0, 1, 63, 64, 65, 66, -1, -2, 1 - FAR, -FAR, FAR - 1, FAR):
                self.check_written(("number", m, e))
        for levels in range(1, 25):
            self.check_written(samples.nested(levels))

    def test_other_texts_are_written_again_as_the_canonical_one(self):
        chance = random.Random(102)
        for value in samples.random_values(103, 1500, "cbor"):
            octets = cbororacle.random_text(value, chance)
            self.assertEqual(write_cbor(read_cbor(list(octets))), write_cbor(value), octets)

    def test_known_texts(self):
        for octets, canonical in ((b"\x1b" + bytes(7) + b"\x05", b"\x05"), (b"\xc2\x42\x00\x17", b"\x17"),
                                  (b"\xfb" + bytes(8), b"\x00"),
                                  (b"\xf9\x3e\x00", b"\xc4\x82\x20\x0f"), (b"\xc4\x82\x01\x05", b"\x18\x32"),
                                  (b"\x5f\x41a\x41b\xff", b"\x42ab"),
                                  (b"\xbf\x62bb\xf6\x61c\x9f\xff\xff", b"\xa2\x61c\x80\x62bb\xf6")):
            self.assertEqual(bytes(write_cbor(read_cbor(list(octets)))), canonical)
            self.assertEqual(read_cbor(list(canonical)), read_cbor(list(octets)))


class AgainstTheScannerTest(CborReadTest):
    def test_ordinary_texts(self):
        self.check_random_texts(104, 2000)

    def test_spoiled_texts(self):
        pool = list(b"\x00\x01\x17\x18\x19\x1b\x20\x38\x40\x41\x5f\x60\x61\x7f\x80\x81\x82\x9f\xa0\xa1\xbf\xc2\xc3\xc4"
                    b"\xd8\xf4\xf6\xf9\xff") + list(range(256))
        self.check_spoiled_texts(105, 6000, pool)

    def test_each_fault(self):
        pool = b"\x00\x18\x20\x40\x41\x5f\x60\x61\x7f\x80\x81\x9f\xa1\xbf\xc2\xc4\xf6\xf9\xff"
        for octets in (b"\xa2\x61a\x9f\xc4\x82\x20\x18\xff\x7f\x61x\xff\xff\x61b\x19\x01\x00",
                       b"\x9f\xbf\x61a\xc2\x42\x01\x00\x61b\x80\xff\x5f\x42ab\xff\xf9\x3c\x00\xff",
                       b"\x82\x63\xe2\x82\xac\xc4\x82\x00\xc3\x5f\x41\x01\xff"):
            self.check_each_fault(octets, pool)


if __name__ == "__main__":
    unittest.main()
