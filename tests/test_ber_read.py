import unittest

from formsalike.bertree.read import read_ber
from formsalike.bertree.scan import BerScanner
from tests import beroracle, reading

NULL = ("null",)
TAGS = (1, 2, 4, 5, 9, 12, 36, 44, 48, 49)
END = b"\x00\x00"
N = b"\x05\x00"
K = b"\x0c\x01k"


def lengths(length):
    """Several ways to write a definite length."""
    octets = length.to_bytes((length.bit_length() + 7) // 8, "big")
    found = [bytes([length])] if length < 128 else []
    for zeros in (0, 1, 2, 126 - len(octets)):
        written = bytes(zeros) + octets
        if written:
            found.append(bytes([128 + len(written)]) + written)
    return found


def definite(tag, contents):
    return bytes([tag]) + lengths(len(contents))[0] + contents


def endless(tag, contents):
    return bytes([tag, 128]) + contents + END


class BerReadTest(reading.ReadTest):
    reader = staticmethod(read_ber)
    scanner_class = BerScanner
    oracle = beroracle
    form = "ber"

    def check_leaf(self, octets, *value):
        """The octets write the value, alone, in lists and in a map, of definite and indefinite length."""
        self.check_value(octets, *value)
        for make in (definite, endless):
            self.check_value(make(48, octets * 2), "list", (value, value))
            self.check_value(make(49, make(48, K + octets)), "map", (((107,), value),))

    def check_number(self, octets, m, e=0):
        self.check_leaf(octets, "number", m, e)

    def check_fails_anywhere(self, octets, index):
        """The octet at the index fails, also in a list and in a map."""
        self.check_fails(octets, index)
        self.check_fails(b"\x30\x80" + octets, index + 2)
        self.check_fails(b"\x31\x80\x30\x80" + K + octets, index + 7)

    def check_decimal(self, contents, m, e):
        for length in lengths(len(contents)):
            self.check_value(b"\x09" + length + contents, "number", m, e)
        self.check_number(definite(9, contents), m, e)

    def check_decimal_fails(self, contents, index):
        octets = definite(9, contents)
        self.check_fails_anywhere(octets, len(octets) - len(contents) + index)


class LeavesTest(BerReadTest):
    def test_null(self):
        for length in lengths(0):
            self.check_leaf(b"\x05" + length, "null")
        for octets, index in ((b"\x05\x01\x00", 1), (b"\x05\x7f", 1), (b"\x05\x80", 1), (b"\x05\xff", 1),
                              (b"\x05\x81\x01\x00", 2), (b"\x05\x82\x01\x00", 3)):
            self.check_fails_anywhere(octets, index)

    def test_truths(self):
        for octet in range(256):
            self.check_value(b"\x01\x01" + bytes([octet]), "truth", octet != 0)
        for length in lengths(1):
            self.check_leaf(b"\x01" + length + b"\x00", "truth", False)
            self.check_leaf(b"\x01" + length + b"\x07", "truth", True)
        for octets, index in ((b"\x01\x00", 1), (b"\x01\x02\x00\x00", 1), (b"\x01\x80", 1), (b"\x01\xff", 1),
                              (b"\x01\x81\x00", 2), (b"\x01\x82\x01\x01\x00", 3)):
            self.check_fails_anywhere(octets, index)

    def test_integers(self):
        for n in (0, 1, -1, 9, 127, 128, -128, -129, 255, 256, -255, -256, -257, 32767, 32768, -32768, -32769,
                  2 ** 63 - 1, 2 ** 63, -2 ** 63, -2 ** 63 - 1, 2 ** 64, -2 ** 64, 10 ** 30, 3 * 10 ** 64):
            octets = n.to_bytes((n if n >= 0 else -1 - n).bit_length() // 8 + 1, "big", signed=True)
            for length in lengths(len(octets)):
                self.check_value(b"\x02" + length + octets, *beroracle.number_of(n, 0))
            self.check_number(definite(2, octets), *beroracle.number_of(n, 0)[1:])

    def test_large_integers(self):
        for many in (127, 128, 255, 256, 1200):
            for first in (1, 127, 128, 254):
                octets = bytes([first]) + b"\x05" * (many - 1)
                n = int.from_bytes(octets, "big", signed=True)
                self.check_number(definite(2, octets), *beroracle.number_of(n, 0)[1:])

    def test_integers_with_octets_too_many(self):
        for octets in (b"\x00\x00", b"\x00\x7f", b"\xff\xff", b"\xff\x80", b"\x00\x00\x80", b"\xff\xff\x00"):
            self.check_fails_anywhere(definite(2, octets), 3)
        for octets, index in ((b"\x02\x00", 1), (b"\x02\x80", 1), (b"\x02\xff", 1), (b"\x02\x81\x00", 2),
                              (b"\x02\x82\x00\x00", 3)):
            self.check_fails_anywhere(octets, index)

    def test_bytes(self):
        for many in (0, 1, 127, 128, 255, 256):
            for length in lengths(many):
                self.check_value(b"\x04" + length + b"a" * many, "bytes", (97,) * many)
        self.check_leaf(definite(4, bytes(range(256))), "bytes", tuple(range(256)))
        for make in (definite, endless):
            self.check_leaf(make(36, b""), "bytes", ())
            self.check_leaf(make(36, b"\x04\x00\x04\x01a\x04\x81\x02\x00\x00\x04\x82\x00\x00"), "bytes", (97, 0, 0))

    def test_texts(self):
        octets = "a\u00e9\u20ac\U0001f600\U0010ffff".encode()
        points = (97, 0xE9, 0x20AC, 0x1F600, 0x10FFFF)
        for length in lengths(len(octets)):
            self.check_value(b"\x0c" + length + octets, "text", points)
        self.check_leaf(definite(12, octets), "text", points)
        for many in range(len(octets) + 1):
            segments = definite(4, octets[:many]) + b"\x04\x00" + definite(4, octets[many:])
            self.check_leaf(definite(44, segments), "text", points)
            self.check_leaf(endless(44, segments), "text", points)
        for empty in (b"\x0c\x00", b"\x2c\x00", b"\x2c\x80\x00\x00", b"\x2c\x02\x04\x00"):
            self.check_leaf(empty, "text", ())

    def test_rows(self):
        for octets in (b"\x30\x02\x05\x00", b"", b"\x30", b"\x00", b"\x05\x00\x05", endless(49, definite(48, K + N))):
            self.check_rows(octets)


class DecimalsTest(BerReadTest):
    def test_length_0(self):
        for length in lengths(0):
            self.check_number(b"\x09" + length, 0)

    def test_first_kind(self):
        for written, m, e in ((b"0", 0, 0), (b"7", 7, 0), (b"+7", 7, 0), (b"-7", -7, 0), (b"   12", 12, 0),
                              (b" -120", -12, 1), (b"007", 7, 0), (b"-0", 0, 0), (b"9" * 3000, 10 ** 3000 - 1, 0)):
            self.check_decimal(b"\x01" + written, m, e)

    def test_second_kind(self):
        for written, m, e in ((b"1.5", 15, -1), (b".5", 5, -1), (b"5.", 5, 0), (b"-0.50", -5, -1), (b"  +10.", 1, 1),
                              (b"0.0", 0, 0),
                              (b"100.00", 1, 2), (b"." + b"0" * 2998 + b"1", 1, -2999),
                              (b"-" + b"9" * 3000 + b".", 1 - 10 ** 3000, 0)):
            self.check_decimal(b"\x02" + written, m, e)
            self.check_decimal(b"\x02" + written.replace(b".", b","), m, e)

    def test_third_kind(self):
        for written, m, e in ((b"1.5E3", 15, 2), (b".5E+1", 5, 0), (b"5.E-2", 5, -2), (b"-0.50E0", -5, -1),
                              (b"  +10.E007", 1, 8),
                              (b"0.0E99", 0, 0), (b"1.E" + b"9" * 1000, 1, 10 ** 1000 - 1),
                              (b"-7.25E-" + b"9" * 1000, -725, -1 - 10 ** 1000)):
            self.check_decimal(b"\x03" + written, m, e)
            self.check_decimal(b"\x03" + written.replace(b".", b",").replace(b"E", b"e"), m, e)

    def test_octets_that_fail(self):
        for contents, index in ((b"\x00", 0), (b"\x041", 0), (b"1", 0), (b"\x83", 0), (b"\x011.5", 2), (b"\x011 ", 2),
                                (b"\x01--1", 2),
                                (b"\x011E5", 2), (b"\x01\t1", 1), (b"\x01\x00", 1), (b"\x021.5E3", 4),
                                (b"\x021..5", 3), (b"\x021.,5", 3),
                                (b"\x02- 1.5", 2), (b"\x021.5 ", 4), (b"\x031E5", 2), (b"\x03.E5", 2),
                                (b"\x031.5E 3", 5), (b"\x031.5E3.", 6),
                                (b"\x031.5EE3", 5), (b"\x031.5E+-3", 6), (b"\x02a", 1), (b"\x031.5x", 4)):
            self.check_decimal_fails(contents, index)

    def test_contents_that_end_too_early(self):
        for contents in (b"\x01", b"\x02", b"\x03", b"\x01 ", b"\x01-", b"\x02-", b"\x02.", b"\x02 -,", b"\x0215",
                         b"\x031", b"\x031.", b"\x03.5", b"\x031.5E", b"\x031.5e-"):
            self.check_decimal_fails(contents, len(contents) - 1)


class HoldersTest(BerReadTest):
    def test_lists(self):
        for length in lengths(0):
            self.check_leaf(b"\x30" + length, "list", ())
        for length in lengths(4):
            self.check_leaf(b"\x30" + length + N + N, "list", (NULL, NULL))
        self.check_leaf(endless(48, b""), "list", ())
        self.check_leaf(endless(48, N + definite(48, endless(48, b"") + N) + N), "list", (
            NULL, ("list", (("list", ()), NULL)), NULL))

    def test_maps(self):
        for length in lengths(0):
            self.check_leaf(b"\x31" + length, "map", ())
        self.check_leaf(endless(49, b""), "map", ())
        value = ("map", (((), ("map", ())), ((107,), NULL), ((0x20AC, 97), ("list", (NULL,)))))
        for make in (definite, endless):
            for key in (definite(12, b"\xe2\x82\xaca"), make(44, b"\x04\x01\xe2\x04\x81\x03\x82\xaca")):
                entries = [make(48, key + make(48, N)), definite(48, K + N), endless(48, b"\x0c\x00" + make(49, b""))]
                self.check_leaf(make(49, b"".join(entries)), *value)
                self.check_leaf(make(49, b"".join(reversed(entries))), *value)
        for length in lengths(5):
            self.check_leaf(b"\x31\x80\x30" + length + K + N + END, "map", (((107,), NULL),))

    def test_tags(self):
        for octet in set(range(256)) - set(TAGS):
            self.check_fails(bytes([octet, 0]), 0)
            self.check_fails(b"\x30\x02" + bytes([octet, 0]), 2)
            if octet != 0:
                self.check_fails(b"\x30\x80" + N + bytes([octet, 0]), 4)
        for octet in set(range(256)) - {48, 0}:
            self.check_fails(b"\x31\x80" + bytes([octet, 0]), 2)
        for octet in set(range(256)) - {12, 44}:
            self.check_fails(b"\x31\x80\x30\x80" + bytes([octet, 0]), 4)
        for octet in set(range(256)) - set(TAGS):
            self.check_fails(b"\x31\x80\x30\x80" + K + bytes([octet, 0]), 7)
        for octet in set(range(256)) - {4, 0}:
            self.check_fails(b"\x24\x80" + bytes([octet, 0]), 2)
            self.check_fails(b"\x2c\x80\x04\x00" + bytes([octet, 0]), 4)

    def test_ends(self):
        for before in (b"\x30\x80", b"\x31\x80", b"\x24\x80", b"\x2c\x80", b"\x30\x80" + N,
                       b"\x31\x80\x30\x80" + K + N):
            for octet in (1, 4, 5, 48, 255):
                self.check_fails(before + bytes([0, octet]), len(before) + 1)
        for octets, place in ((b"\x30\x02\x00\x00", 2), (b"\x30\x04" + N + END, 4), (b"\x31\x02\x00\x00", 2),
                              (b"\x00\x00", 0),
                              (b"\x24\x02\x00\x00", 2), (b"\x31\x80\x30\x80" + END, 4),
                              (b"\x31\x80\x30\x80" + K + END, 7)):
            self.check_fails(octets, place)

    def test_lengths(self):
        for tag in TAGS:
            self.check_fails_anywhere(bytes([tag, 255]) + bytes(9), 1)
            if tag not in (36, 44, 48, 49):
                self.check_fails_anywhere(bytes([tag, 128]) + bytes(9), 1)
        for tag in (b"\x24", b"\x2c"):
            self.check_fails(tag + b"\x80\x04\x80\x00\x00", 3)

    def test_lengths_beyond_the_contents(self):
        for octets, place in ((b"\x30\x03\x04\x02ab", 3), (b"\x30\x04\x04\x81\x02ab", 4), (b"\x30\x03\x30\x02" + N, 3),
                              (b"\x30\x05\x30\x80\x04\x02ab", 5), (b"\x30\x80\x30\x04\x30\x80\x04\x02ab", 7),
                              (b"\x31\x04\x30\x05" + K + N, 3), (b"\x31\x07\x30\x04" + K + N, 8),
                              (b"\x31\x80\x30\x05\x0c\x04abcd", 5), (b"\x24\x03\x04\x02ab", 3),
                              (b"\x30\x0a\x04\x88" + b"\xff" * 8, 11)):
            self.check_fails(octets, place)

    def test_an_octet_wanted_where_the_contents_have_ended(self):
        for octets in (b"\x30\x01\x05", b"\x30\x03" + N + b"\x04", b"\x30\x02\x30\x80", b"\x30\x03\x30\x80\x00",
                       b"\x30\x02\x04\x81",
                       b"\x30\x04\x30\x80" + N, b"\x31\x02\x30\x00", b"\x31\x05\x30\x03" + K, b"\x31\x05\x30\x80" + K,
                       b"\x31\x07\x30\x80" + K + N, b"\x31\x08\x30\x80" + K + N + b"\x00", b"\x24\x01\x04",
                       b"\x30\x02\x24\x80"):
            self.check_ends_too_early(octets)
            for octet in (0, 4, 5, 12, 48, 255):
                self.check_fails(octets + bytes([octet]), len(octets))

    def test_octets_behind_the_value_of_an_entry(self):
        for octet in (0, 4, 5, 48, 255):
            self.check_fails(b"\x31\x80\x30\x07" + K + N + bytes([octet, 0]), 9)
            if octet != 0:
                self.check_fails(b"\x31\x80\x30\x80" + K + N + bytes([octet, 0]), 9)

    def test_utf8(self):
        for octets, index in ((b"\x80", 0), (b"\xc0\x80", 0), (b"\xc3a", 1), (b"\xed\xa0\x80", 1), (b"a\xffb", 1),
                              (b"\xc3", 0), (b"a\xe2\x82", 2)):
            self.check_fails_anywhere(definite(12, octets), 2 + index)
            self.check_fails_anywhere(definite(44, definite(4, octets)), 4 + index)
            self.check_fails(b"\x31\x80\x30\x80" + definite(12, octets) + N, 6 + index)
        for octets, index in ((b"\x2c\x05\x04\x01\xc3\x04\x00", 6), (b"\x2c\x80\x04\x01\xc3\x00\x00", 6),
                              (b"\x2c\x80\x04\x01\xc3\x04\x01a", 7),
                              (b"\x2c\x80\x04\x01\xf0\x04\x02\x9f\x98\x00\x00", 10)):
            self.check_fails_anywhere(octets, index)
            self.check_fails(b"\x31\x80\x30\x80" + octets + N, index + 4)

    def test_keys_again(self):
        one, empty = b"\x30\x05" + K + N, b"\x30\x04\x0c\x00" + N
        for octets, place in ((one + b"\x30\x80" + K, 13), (one + b"\x30\x80\x2c\x80\x04\x01k\x00\x00", 17),
                              (one + b"\x30\x80\x2c\x03\x04\x01k" + N, 15),
                              (one + b"\x30\x80\x2c\x05\x04\x01k\x04\x00" + N, 17),
                              (one + b"\x30\x80\x0c\x82\x00\x01k" + N, 15), (empty + b"\x30\x80\x0c\x00" + N, 11),
                              (empty + b"\x30\x80\x0c\x82\x00\x00" + N, 13), (empty + b"\x30\x80\x2c\x00" + N, 11),
                              (empty + b"\x30\x80\x2c\x80\x00\x00" + N, 13)):
            self.check_fails(b"\x31\x80" + octets, place)
        self.check_value(endless(49, definite(48, K + definite(49, one))), "map",
                         (((107,), ("map", (((107,), NULL),))),))


class PlacesTest(BerReadTest):
    def test_octets_behind_the_element(self):
        for octets in (N, b"\x01\x01\x00", b"\x04\x00", b"\x04\x01a", b"\x30\x00", b"\x31\x00", b"\x30\x80\x00\x00",
                       b"\x24\x00",
                       b"\x2c\x80\x00\x00", b"\x09\x00", b"\x30\x02" + N, endless(49, definite(48, K + N))):
            for behind in (0, 4, 5, 48, 255):
                self.check_fails(octets + bytes([behind]), len(octets))

    def test_beginnings(self):
        self.check_nothing()
        text = endless(44, b"\x04\x01\xc3\x04\x01\xa9")
        entry = definite(48, definite(44, b"\x04\x01k") + b"\x02\x82\x00\x02\x01\x00")
        for octets in (endless(48, endless(49, endless(48, text + definite(9, b"\x03-1.5E-2")))),
                       definite(48, definite(49, entry)),
                       definite(48, endless(48, b"\x04\x83\x00\x00\x02ab") + endless(36, b"\x04\x01a")), N,
                       b"\x09\x00"):
            self.check_beginnings(octets)
        for octets in (b"\x05", b"\x04\x82\x00", b"\x04\xfe" + b"\xff" * 126, b"\x30\x80", b"\x30\x80\x00",
                       b"\x31\x80\x30\x80"):
            self.check_ends_too_early(octets)

    def test_depth(self):
        deeper = [(b"\x30\x80", 0), (b"\x30\x00", 0), (b"\x31\x80", 0), (b"\x31\x00", 0)]
        self.check_depth(b"\x30\x80", END, deeper)
        value = NULL
        for _ in range(24):
            value = ("map", (((107,), value),))
        self.check_value((b"\x31\x80\x30\x80" + K) * 24 + N + END * 48, *value)
        for octets, place in deeper:
            self.check_fails((b"\x31\x80\x30\x80" + K) * 24 + octets + END * 48, 168 + place)


class AgainstTheScannerTest(BerReadTest):
    def test_ordinary_texts(self):
        self.check_random_texts(111, 2000)

    def test_spoiled_texts(self):
        pool = list(b"\x00\x00\x01\x02\x03\x04\x05\x09\x0c\x24\x2c\x30\x31\x80\x81\x82 +-.,19Ee") + list(range(256))
        self.check_spoiled_texts(112, 6000, pool)

    def test_each_fault(self):
        pool = b"\x00\x01\x02\x03\x04\x05\x09\x0c\x24\x30\x31\x80\x81-.1\xc3\xff"
        text = endless(44, b"\x04\x01a\x04\x01b")
        entry = definite(48, K + definite(36, b"\x04\x02ab"))
        split = definite(48, b"\x2c\x80\x04\x01\xc3\x04\x01\xa9\x00\x00" + N)
        for octets in (endless(49, endless(48, text + definite(9, b"\x03-1.5E-2"))),
                       definite(48, b"\x02\x02\x01\x00" + definite(49, entry) + b"\x01\x01\xff"),
                       definite(48, endless(48, N) + endless(49, split))):
            self.check_each_fault(octets, pool)


if __name__ == "__main__":
    unittest.main()
