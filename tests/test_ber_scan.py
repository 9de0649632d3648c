import unittest

from formsalike.bertree.read import read_ber
from formsalike.bertree.scan import BerScanner
from tests import beroracle, scanning
from tests.scanning import CLOSE, LIST, MAP, key, leaf

NULL, TRUE, FALSE = leaf("null"), leaf("truth", True), leaf("truth", False)
TAGS = [1, 2, 4, 5, 9, 12, 36, 44, 48, 49]
LONG_TAGS = [36, 44, 48, 49]
END = b"\x00\x00"
N = b"\x05\x00"
K = b"\x0c\x01k"


def number(m, e=0):
    return leaf("number", m, e)


def octets_of(octets):
    return leaf("bytes", tuple(octets))


def text_of(string):
    return leaf("text", tuple(map(ord, string)))


def lengths(length):
    """Several ways to write a definite length."""
    octets = length.to_bytes((length.bit_length() + 7) // 8, "big")
    found = [bytes([length])] if length < 128 else []
    for zeros in (0, 1, 2, 8, 126 - len(octets)):
        written = bytes(zeros) + octets
        if written:
            found.append(bytes([128 + len(written)]) + written)
    return found


def definite(tag, contents):
    return bytes([tag]) + lengths(len(contents))[0] + contents


def endless(tag, contents):
    return bytes([tag, 128]) + contents + END


class BerScanTest(scanning.ScanTest):
    scanner_class = BerScanner
    reader = staticmethod(read_ber)
    oracle = beroracle

    def check_leaf(self, octets, *value):
        """The octets write the value, whose event comes with the last one."""
        self.check_events(octets, {len(octets) - 1: [("leaf", value)]})
        self.check_value(endless(48, octets), ("list", (value,)))
        self.check_value(definite(48, octets), ("list", (value,)))

    def check_number(self, octets, m, e=0):
        self.check_leaf(octets, "number", m, e)

    def check_decimal(self, contents, m, e=0):
        self.check_number(definite(9, contents), m, e)

    def check_decimal_fails(self, contents, index):
        """The octet at the index in the contents fails."""
        octets = definite(9, contents)
        place = len(octets) - len(contents) + index
        self.check_fails(octets, place)
        self.check_fails(endless(48, octets), place + 2)

    def check_decimal_can_stand(self, contents, allowed):
        """Of all octets, just these can stand behind the others in contents that are longer."""
        self.check_can_stand(b"\x09\x7f" + contents, allowed)


class TagsTest(BerScanTest):
    def test_first_octets(self):
        self.check_can_stand(b"", TAGS)
        self.check_can_stand(b"\x30\x80", TAGS + [0])
        self.check_can_stand(b"\x30\x80" + N, TAGS + [0])
        self.check_can_stand(b"\x30\x10", TAGS)
        self.check_can_stand(b"\x30\x10" + N, TAGS)
        self.check_can_stand(b"\x30\x04\x30\x80", TAGS + [0])
        self.check_can_stand(b"\x30\x80\x30\x04", TAGS)

    def test_in_maps(self):
        self.check_can_stand(b"\x31\x80", [48, 0])
        self.check_can_stand(b"\x31\x20", [48])
        for header in (b"\x30\x20", b"\x30\x80"):
            self.check_can_stand(b"\x31\x80" + header, [12, 44])
            self.check_can_stand(b"\x31\x30" + header, [12, 44])
            self.check_can_stand(b"\x31\x80" + header + K, TAGS)
            self.check_can_stand(b"\x31\x80" + header + endless(44, b""), TAGS)
        self.check_can_stand(b"\x31\x80\x30\x80" + K + N, [0])
        self.check_can_stand(b"\x31\x80\x30\x20" + K + N, b"")
        self.check_can_stand(b"\x31\x80\x30\x05" + K + N, [48, 0])
        self.check_can_stand(b"\x31\x20\x30\x05" + K + N, [48])
        self.check_can_stand(b"\x31\x20\x30\x80" + K + N + END, [48])

    def test_in_segments(self):
        for tag in (b"\x24", b"\x2c"):
            self.check_can_stand(tag + b"\x80", [4, 0])
            self.check_can_stand(tag + b"\x80\x04\x00", [4, 0])
            self.check_can_stand(tag + b"\x80\x04\x01a", [4, 0])
            self.check_can_stand(tag + b"\x09", [4])
            self.check_can_stand(tag + b"\x09\x04\x01a", [4])

    def test_octets_behind_the_element(self):
        for whole in (N, b"\x01\x01\x00", b"\x04\x00", b"\x04\x01a", b"\x30\x00", b"\x31\x00", b"\x30\x80\x00\x00",
                      b"\x24\x00", b"\x2c\x80\x00\x00", b"\x09\x00", b"\x30\x02" + N):
            self.check_can_stand(whole, b"")


class LengthsTest(BerScanTest):
    def test_lengths_in_all_ways(self):
        for many in (0, 1, 2, 127, 128, 255, 256, 1000):
            for length in lengths(many):
                self.check_leaf(b"\x04" + length + b"a" * many, "bytes", (97,) * many)
                self.check_leaf(b"\x0c" + length + b"a" * many, "text", (97,) * many)
        for length in lengths(2):
            self.check_value(b"\x30" + length + N, ("list", (("null",),)))
            self.check_number(b"\x02" + length + b"\x01\x00", 256)
            self.check_number(b"\x09" + length + b"\x017", 7)
        for length in lengths(1):
            self.check_leaf(b"\x01" + length + b"\xff", "truth", True)
        for length in lengths(0):
            self.check_leaf(b"\x05" + length, "null")
            self.check_number(b"\x09" + length, 0)
            self.check_value(b"\x31" + length, ("map", ()))
        for length in lengths(7):
            for entry in lengths(5):
                if len(entry) == 1:
                    self.check_value(b"\x31" + length + b"\x30" + entry + K + N, ("map", (((107,), ("null",)),)))

    def test_the_longest_length(self):
        self.check_leaf(b"\x04\xfe" + bytes(125) + b"\x02ab", "bytes", (97, 98))
        self.check_leaf(b"\x05\xfe" + bytes(126), "null")
        self.check_value(b"\x30\xfe" + bytes(125) + b"\x02" + N, ("list", (("null",),)))

    def test_a_huge_length_ends_too_early(self):
        self.check_ends_too_early(b"\x04\xfe" + b"\xff" * 126 + b"abc")
        self.check_ends_too_early(b"\x30\x88" + b"\xff" * 8 + N)

    def test_what_can_stand(self):
        for tag in (4, 9, 12):
            self.check_can_stand(bytes([tag]), [*range(128), *range(129, 255)])
        for tag in LONG_TAGS:
            self.check_can_stand(bytes([tag]), range(255))
        self.check_can_stand(b"\x01", [1, *range(129, 255)])
        self.check_can_stand(b"\x05", [0, *range(129, 255)])
        self.check_can_stand(b"\x02", [*range(1, 128), *range(129, 255)])

    def test_the_length_of_truths_nulls_and_integers(self):
        self.check_can_stand(b"\x01\x81", [1])
        self.check_can_stand(b"\x01\x82\x00", [1])
        self.check_fails(b"\x01\x82\x01\x01\x00", 3)
        self.check_can_stand(b"\x05\x81", [0])
        self.check_can_stand(b"\x05\x83\x00\x00", [0])
        self.check_fails(b"\x05\x83\x00\x01\x00", 4)
        self.check_fails(b"\x02\x00", 1)
        self.check_fails(b"\x02\x81\x00", 2)
        self.check_fails(b"\x02\x82\x00\x00", 3)
        self.check_fails(b"\x01\x00", 1)
        self.check_fails(b"\x01\x02\x00\x00", 1)
        self.check_fails(b"\x05\x01\x00", 1)

    def test_indefinite_lengths(self):
        self.check_value(b"\x30\x80\x00\x00", ("list", ()))
        self.check_value(b"\x31\x80\x00\x00", ("map", ()))
        self.check_value(b"\x24\x80\x00\x00", ("bytes", ()))
        self.check_value(b"\x2c\x80\x00\x00", ("text", ()))
        for tag in (1, 2, 4, 5, 9, 12):
            self.check_fails(bytes([tag]) + b"\x80\x00\x00", 1)
        for tag in (b"\x24", b"\x2c"):
            self.check_fails(tag + b"\x80\x04\x80\x00\x00\x00\x00", 3)

    def test_the_second_zero(self):
        for before in (b"\x30\x80", b"\x31\x80", b"\x24\x80", b"\x2c\x80", b"\x30\x80" + N,
                       b"\x31\x80\x30\x80" + K + N, b"\x24\x80\x04\x01a"):
            self.check_can_stand(before + b"\x00", [0])


class EventPlacesTest(BerScanTest):
    def test_leaves_with_the_last_octet(self):
        self.check_events(b"\x05\x00", {1: [NULL]})
        self.check_events(b"\x05\x82\x00\x00", {3: [NULL]})
        self.check_events(b"\x01\x01\x00", {2: [FALSE]})
        self.check_events(b"\x02\x02\x01\x00", {3: [number(256)]})
        self.check_events(b"\x04\x03abc", {4: [octets_of(b"abc")]})
        self.check_events(b"\x0c\x03abc", {4: [text_of("abc")]})
        self.check_events(b"\x09\x04\x021.5", {5: [number(15, -1)]})

    def test_empty_ones_with_the_length(self):
        self.check_events(b"\x04\x00", {1: [octets_of(b"")]})
        self.check_events(b"\x0c\x81\x00", {2: [text_of("")]})
        self.check_events(b"\x09\x00", {1: [number(0)]})
        self.check_events(b"\x24\x00", {1: [octets_of(b"")]})
        self.check_events(b"\x2c\x82\x00\x00", {3: [text_of("")]})

    def test_strings_in_segments(self):
        self.check_events(b"\x24\x06\x04\x01a\x04\x01b", {7: [octets_of(b"ab")]})
        self.check_events(b"\x24\x05\x04\x01a\x04\x00", {6: [octets_of(b"a")]})
        self.check_events(b"\x2c\x80\x04\x01a\x00\x00", {6: [text_of("a")]})
        self.check_events(b"\x24\x80\x00\x00", {3: [octets_of(b"")]})

    def test_open_with_the_last_octet_of_the_length(self):
        self.check_events(b"\x30\x02" + N, {1: [LIST], 3: [NULL, CLOSE]})
        self.check_events(b"\x30\x81\x02" + N, {2: [LIST], 4: [NULL, CLOSE]})
        self.check_events(b"\x30\x83\x00\x00\x02" + N, {4: [LIST], 6: [NULL, CLOSE]})
        self.check_events(b"\x30\x80" + N + END, {1: [LIST], 3: [NULL], 5: [CLOSE]})
        self.check_events(b"\x31\x80\x00\x00", {1: [MAP], 3: [CLOSE]})

    def test_empty_ones_close_with_the_length(self):
        self.check_events(b"\x30\x00", {1: [LIST, CLOSE]})
        self.check_events(b"\x31\x00", {1: [MAP, CLOSE]})
        self.check_events(b"\x31\x82\x00\x00", {3: [MAP, CLOSE]})

    def test_several_that_end_at_once(self):
        self.check_events(b"\x30\x06\x30\x04\x30\x02" + N, {1: [LIST], 3: [LIST], 5: [LIST],
                                                            7: [NULL, CLOSE, CLOSE, CLOSE]})
        self.check_events(b"\x30\x04\x30\x02\x31\x00", {1: [LIST], 3: [LIST], 5: [MAP, CLOSE, CLOSE, CLOSE]})
        self.check_events(b"\x30\x04\x30\x80\x00\x00", {1: [LIST], 3: [LIST], 5: [CLOSE, CLOSE]})
        self.check_events(b"\x30\x80\x30\x02\x30\x00\x00\x00",
                          {1: [LIST], 3: [LIST], 5: [LIST, CLOSE, CLOSE], 7: [CLOSE]})
        self.check_events(b"\x30\x06\x24\x04\x04\x00\x04\x00", {1: [LIST], 7: [octets_of(b""), CLOSE]})

    def test_maps(self):
        self.check_events(b"\x31\x07\x30\x05" + K + N, {1: [MAP], 6: [key("k")], 8: [NULL, CLOSE]})
        self.check_events(b"\x31\x80\x30\x05" + K + N + END, {1: [MAP], 6: [key("k")], 8: [NULL], 10: [CLOSE]})
        self.check_events(b"\x31\x09\x30\x80" + K + N + END, {1: [MAP], 6: [key("k")], 8: [NULL], 10: [CLOSE]})
        self.check_events(b"\x31\x80\x30\x80" + K + N + END + END, {1: [MAP], 6: [key("k")], 8: [NULL], 12: [CLOSE]})
        self.check_events(b"\x31\x06\x30\x04\x0c\x00\x30\x00", {1: [MAP], 5: [key("")], 7: [LIST, CLOSE, CLOSE]})
        self.check_events(b"\x30\x08\x31\x06\x30\x04\x0c\x00" + N,
                          {1: [LIST], 3: [MAP], 7: [key("")], 9: [NULL, CLOSE, CLOSE]})

    def test_keys_in_segments(self):
        self.check_events(b"\x31\x80\x30\x80\x2c\x80\x04\x01k\x00\x00" + N + END + END, {
            1: [MAP], 10: [key("k")], 12: [NULL], 16: [CLOSE]})
        self.check_events(b"\x31\x80\x30\x80\x2c\x03\x04\x01k" + N + END + END, {
            1: [MAP], 8: [key("k")], 10: [NULL], 14: [CLOSE]})
        self.check_events(b"\x31\x80\x30\x80\x2c\x00" + N + END + END, {
            1: [MAP], 5: [key("")], 7: [NULL], 11: [CLOSE]})

    def test_keys_in_the_order_of_the_text(self):
        self.check_events(b"\x31\x0e\x30\x05\x0c\x01b" + N + b"\x30\x05\x0c\x01a" + N, {
            1: [MAP], 6: [key("b")], 8: [NULL], 13: [key("a")], 15: [NULL, CLOSE]})

    def test_entries_have_no_events(self):
        found = self.scan(b"\x31\x80\x30\x80" + K + N + END + END)[0]
        self.assertEqual(found[2:6], [[], [], [], []])
        self.assertEqual(found[9:12], [[], [], []])


class TruthsAndIntegersTest(BerScanTest):
    def test_truths_of_any_octet(self):
        self.check_leaf(b"\x01\x01\x00", "truth", False)
        for octet in range(1, 256):
            self.check_leaf(b"\x01\x01" + bytes([octet]), "truth", True)

    def test_edges_of_the_twos_complement(self):
        for n in (0, 1, -1, 127, 128, -128, -129, 255, 256, -255, -256, -257, 32767, 32768, -32768, -32769,
                  2 ** 63 - 1, 2 ** 63, -2 ** 63, -2 ** 63 - 1, 2 ** 64, -2 ** 64, 2 ** 64 + 1, 10 ** 30, 3 * 10 ** 64):
            octets = n.to_bytes((n if n >= 0 else -1 - n).bit_length() // 8 + 1, "big", signed=True)
            self.check_number(definite(2, octets), *beroracle.number_of(n, 0)[1:])

    def test_known_octets(self):
        for octets, n in ((b"\x00", 0), (b"\x7f", 127), (b"\x00\x80", 128), (b"\x80", -128), (b"\xff", -1),
                          (b"\xff\x7f", -129), (b"\x01\x02\x03", 66051), (b"\x00\xff", 255), (b"\xff\x00", -256)):
            self.check_number(definite(2, octets), *beroracle.number_of(n, 0)[1:])

    def test_octets_too_many(self):
        self.check_can_stand(b"\x02\x02\x00", range(128, 256))
        self.check_can_stand(b"\x02\x02\xff", range(128))
        for first in (1, 127, 128, 254):
            self.check_can_stand(b"\x02\x02" + bytes([first]), range(256))
        self.check_can_stand(b"\x02\x03\x00\x80", range(256))
        self.check_can_stand(b"\x02\x03\xff\x00", range(256))
        for octets in (b"\x00\x00", b"\x00\x7f", b"\xff\xff", b"\xff\x80", b"\x00\x00\x80", b"\xff\xff\x00"):
            self.check_fails(definite(2, octets), 3)
            self.check_fails(definite(48, definite(2, octets)), 5)

    def test_large_integers(self):
        for many in (127, 128, 1000, 1200):
            for first in (1, 127, 128, 254):
                octets = bytes([first]) + b"\x05" * (many - 1)
                n = int.from_bytes(octets, "big", signed=True)
                self.check_number(definite(2, octets), *beroracle.number_of(n, 0)[1:])


class DecimalsTest(BerScanTest):
    def test_length_0(self):
        self.check_number(b"\x09\x00", 0)

    def test_first_octet(self):
        self.check_can_stand(b"\x09\x05", [1, 2, 3])
        self.check_can_stand(b"\x09\x01", b"")
        self.check_decimal_fails(b"\x00", 0)
        self.check_decimal_fails(b"\x041", 0)
        self.check_decimal_fails(b"1", 0)
        self.check_decimal_fails(b"\x80", 0)

    def test_first_kind(self):
        for written, m, e in ((b"0", 0, 0), (b"7", 7, 0), (b"+7", 7, 0), (b"-7", -7, 0), (b"   12", 12, 0),
                              (b" -120", -12, 1),
                              (b"007", 7, 0), (b"-0", 0, 0), (b"  +000", 0, 0), (b"9" * 3000, 10 ** 3000 - 1, 0)):
            self.check_decimal(b"\x01" + written, m, e)

    def test_second_kind(self):
        for mark in (b".", b","):
            for written, m, e in ((b"1.5", 15, -1), (b".5", 5, -1), (b"5.", 5, 0), (b"-0.50", -5, -1),
                                  (b"  +10.", 1, 1),
                                  (b"0.0", 0, 0), (b"-.0", 0, 0), (b"12.34", 1234, -2), (b"100.00", 1, 2),
                                  (b"." + b"0" * 2998 + b"1", 1, -2999)):
                self.check_decimal(b"\x02" + written.replace(b".", mark), m, e)

    def test_third_kind(self):
        for mark, sign in ((b".", b"E"), (b",", b"e"), (b".", b"e"), (b",", b"E")):
            for written, m, e in ((b"1.5E3", 15, 2), (b".5E+1", 5, 0), (b"5.E-2", 5, -2), (b"-0.50E0", -5, -1),
                                  (b"  +10.E007", 1, 8), (b"0.0E99", 0, 0), (b"-.0E-5", 0, 0), (b"123.E-0", 123, 0),
                                  (b"1.E" + b"9" * 1000, 1, 10 ** 1000 - 1),
                                  (b"-7.25E-" + b"9" * 1000, -725, -1 - 10 ** 1000)):
                self.check_decimal(b"\x03" + written.replace(b".", mark).replace(b"E", sign), m, e)

    def test_what_can_stand_in_the_first_kind(self):
        digits = b"0123456789"
        self.check_decimal_can_stand(b"\x01", digits + b" +-")
        self.check_decimal_can_stand(b"\x01 ", digits + b" +-")
        self.check_decimal_can_stand(b"\x01+", digits)
        self.check_decimal_can_stand(b"\x01 -", digits)
        self.check_decimal_can_stand(b"\x010", digits)
        self.check_decimal_can_stand(b"\x01-12", digits)

    def test_what_can_stand_in_the_other_kinds(self):
        digits = b"0123456789"
        for kind in (b"\x02", b"\x03"):
            more = b"eE" if kind == b"\x03" else b""
            self.check_decimal_can_stand(kind, digits + b" +-.,")
            self.check_decimal_can_stand(kind + b"  ", digits + b" +-.,")
            self.check_decimal_can_stand(kind + b"-", digits + b".,")
            self.check_decimal_can_stand(kind + b" +", digits + b".,")
            self.check_decimal_can_stand(kind + b"1", digits + b".,")
            self.check_decimal_can_stand(kind + b".", digits)
            self.check_decimal_can_stand(kind + b"-,", digits)
            self.check_decimal_can_stand(kind + b"1.", digits + more)
            self.check_decimal_can_stand(kind + b".1", digits + more)
            self.check_decimal_can_stand(kind + b"1,1", digits + more)

    def test_what_can_stand_in_an_exponent(self):
        digits = b"0123456789"
        for before in (b"\x031.E", b"\x03.5e", b"\x03 -1,5E"):
            self.check_decimal_can_stand(before, digits + b"+-")
            self.check_decimal_can_stand(before + b"+", digits)
            self.check_decimal_can_stand(before + b"-", digits)
            self.check_decimal_can_stand(before + b"0", digits)
            self.check_decimal_can_stand(before + b"-1", digits)

    def test_contents_that_end_too_early(self):
        for contents in (b"\x01", b"\x02", b"\x03", b"\x01 ", b"\x01-", b"\x01  +", b"\x02-", b"\x02.", b"\x02 -,",
                         b"\x0215",
                         b"\x02-1", b"\x031", b"\x031.", b"\x03.5", b"\x031.5E", b"\x031.5e-", b"\x03.", b"\x03-1.5E+"):
            self.check_decimal_fails(contents, len(contents) - 1)

    def test_octets_that_fail(self):
        for contents, index in ((b"\x011.5", 2), (b"\x011 ", 2), (b"\x01--1", 2), (b"\x011E5", 2), (b"\x021.5E3", 4),
                                (b"\x021..5", 3), (b"\x021.,5", 3), (b"\x02- 1.5", 2), (b"\x021.5 ", 4),
                                (b"\x031E5", 2),
                                (b"\x03.E5", 2), (b"\x031.5E 3", 5), (b"\x031.5E3.", 6), (b"\x031.5EE3", 5),
                                (b"\x01\x00", 1),
                                (b"\x031.5E+-3", 6), (b"\x01\xa01", 1), (b"\x01\t1", 1), (b"\x021.5e", 4)):
            self.check_decimal_fails(contents, index)


class StringsTest(BerScanTest):
    def test_any_octets_in_bytes(self):
        self.check_leaf(definite(4, bytes(range(256))), "bytes", tuple(range(256)))
        self.check_leaf(definite(36, definite(4, bytes(range(256)))), "bytes", tuple(range(256)))

    def test_texts(self):
        octets = "a\u00e9\u20ac\U0001f600\U0010ffff".encode()
        points = (97, 0xE9, 0x20AC, 0x1F600, 0x10FFFF)
        self.check_leaf(definite(12, octets), "text", points)
        for many in range(len(octets) + 1):
            segments = definite(4, octets[:many]) + definite(4, octets[many:])
            self.check_leaf(definite(44, segments), "text", points)
            self.check_leaf(endless(44, segments), "text", points)
        segments = b"".join(definite(4, bytes([octet])) + b"\x04\x00" for octet in octets)
        self.check_leaf(endless(44, segments), "text", points)

    def test_segments(self):
        for make in (definite, endless):
            self.check_leaf(make(36, b""), "bytes", ())
            self.check_leaf(make(44, b""), "text", ())
            self.check_leaf(make(36, b"\x04\x00"), "bytes", ())
            self.check_leaf(make(36, b"\x04\x01a\x04\x81\x02bc\x04\x82\x00\x00\x04\x01d"), "bytes", tuple(b"abcd"))
            self.check_leaf(make(44, b"\x04\x01a\x04\x81\x02bc\x04\x82\x00\x00\x04\x01d"), "text", tuple(b"abcd"))
            self.check_leaf(make(36, b"\x04\x02\x00\x00"), "bytes", (0, 0))

    def test_what_can_stand(self):
        begins = set(range(128)) | set(range(0xC2, 0xF5))
        for before in (b"\x0c\x05", b"\x0c\x05a", b"\x31\x80\x30\x80\x0c\x05", b"\x2c\x80\x04\x05",
                       b"\x2c\x20\x04\x05a"):
            self.check_can_stand(before, begins)
        for before in (b"\x0c\x09", b"\x2c\x80\x04\x09", b"\x31\x80\x30\x80\x2c\x80\x04\x09"):
            self.check_can_stand(before + b"\xe0", range(0xA0, 0xC0))
            self.check_can_stand(before + b"\xed", range(0x80, 0xA0))
            self.check_can_stand(before + b"\xf0", range(0x90, 0xC0))
            self.check_can_stand(before + b"\xf4", range(0x80, 0x90))
            self.check_can_stand(before + b"\xf1\x80", range(0x80, 0xC0))
        self.check_can_stand(b"\x2c\x80\x04\x01\xe0\x04\x05", range(0xA0, 0xC0))
        self.check_can_stand(b"\x2c\x80\x04\x01\xf0\x04\x00\x04\x05", range(0x90, 0xC0))

    def test_texts_that_end_within_a_character(self):
        self.check_can_stand(b"\x0c\x01", range(128))
        self.check_fails(b"\x0c\x01\xc3", 2)
        self.check_fails(b"\x0c\x03a\xe2\x82", 4)
        self.check_fails(b"\x2c\x03\x04\x01\xc3", 4)
        self.check_fails(b"\x2c\x05\x04\x01\xc3\x04\x00", 6)
        self.check_fails(b"\x2c\x80\x04\x01\xc3\x00\x00", 6)
        self.check_fails(b"\x2c\x80\x04\x01\xf0\x04\x02\x9f\x98\x00\x00", 10)
        self.check_fails(b"\x31\x80\x30\x80\x0c\x01\xc3\x05\x00", 6)
        self.check_fails(b"\x31\x80\x30\x80\x2c\x80\x04\x01\xc3\x00\x00", 10)

    def test_texts_that_are_not_utf8(self):
        for octets, index in ((b"\x80", 0), (b"\xc0\x80", 0), (b"\xc3a", 1), (b"\xed\xa0\x80", 1), (b"a\xffb", 1)):
            self.check_fails(definite(12, octets), 2 + index)
            self.check_fails(definite(44, definite(4, octets)), 4 + index)
        self.check_fails(b"\x2c\x80\x04\x01\xc3\x04\x01a", 7)

    def test_wrong_segments(self):
        for tag in (b"\x24", b"\x2c"):
            for segment in (N, b"\x0c\x00", b"\x24\x00", b"\x2c\x00", b"\x30\x00", b"\x02\x01\x00"):
                self.check_fails(tag + b"\x80" + segment + END, 2)
                self.check_fails(tag + b"\x03" + segment + b"\x00", 2)
            self.check_fails(tag + b"\x03\x04\x02ab", 3)
            self.check_fails(tag + b"\x02\x00\x00", 2)
            self.check_fails(tag + b"\x04\x04\x00\x00\x00", 4)
            self.check_fails(tag + b"\x80\x04\xff", 3)


class ContentsTest(BerScanTest):
    def test_ends_by_two_zeros(self):
        self.check_value(endless(48, N + N), ("list", (("null",), ("null",))))
        self.check_value(endless(48, endless(48, b"")), ("list", (("list", ()),)))
        self.check_value(definite(48, endless(48, N)), ("list", (("list", (("null",),)),)))
        self.check_value(endless(48, definite(48, N)), ("list", (("list", (("null",),)),)))

    def test_zeros_in_definite_contents(self):
        self.check_fails(b"\x30\x02\x00\x00", 2)
        self.check_fails(b"\x30\x04" + N + END, 4)
        self.check_fails(b"\x31\x02\x00\x00", 2)
        self.check_fails(b"\x00\x00", 0)
        self.check_fails(b"\x30\x80\x30\x02\x00\x00", 4)

    def test_zeros_as_contents_are_no_end(self):
        self.check_value(endless(48, b"\x04\x02\x00\x00" + b"\x01\x01\x00"),
                         ("list", (("bytes", (0, 0)), ("truth", False))))

    def test_lengths_beyond_the_contents(self):
        self.check_fails(b"\x30\x03\x04\x02ab", 3)
        self.check_fails(b"\x30\x04\x04\x81\x02ab", 4)
        self.check_fails(b"\x30\x03\x30\x02" + N, 3)
        self.check_fails(b"\x30\x05\x30\x80\x04\x02ab", 5)
        self.check_fails(b"\x30\x80\x30\x04\x30\x80\x04\x02ab", 7)
        self.check_fails(b"\x31\x04\x30\x05" + K + N, 3)
        self.check_fails(b"\x31\x07\x30\x04" + K + N, 8)
        self.check_fails(b"\x31\x80\x30\x05\x0c\x04abcd", 5)
        self.check_fails(b"\x24\x03\x04\x02ab", 3)
        self.check_fails(b"\x30\x06\x30\x03\x04\x02ab\x00", 5)
        self.check_fails(b"\x30\x05\x04\x88" + b"\xff" * 8, 7)
        self.check_fails(b"\x30\x0a\x04\x88" + b"\xff" * 8, 11)

    def test_lengths_up_to_the_end_of_the_contents(self):
        self.check_value(b"\x30\x04\x04\x02ab", ("list", (("bytes", (97, 98)),)))
        self.check_value(b"\x30\x80\x04\x7f" + b"a" * 127 + END, ("list", (("bytes", (97,) * 127),)))

    def test_an_octet_wanted_where_the_contents_have_ended(self):
        for octets, events in ((b"\x30\x01\x05", {1: [LIST]}),
                               (b"\x30\x03" + N + b"\x04", {1: [LIST], 3: [NULL]}),
                               (b"\x30\x02\x30\x80", {1: [LIST], 3: [LIST]}),
                               (b"\x30\x03\x30\x80\x00", {1: [LIST], 3: [LIST]}),
                               (b"\x30\x02\x04\x81", {1: [LIST]}),
                               (b"\x30\x03\x04\x82\x00", {1: [LIST]}),
                               (b"\x30\x04\x30\x80" + N, {1: [LIST], 3: [LIST], 5: [NULL]}),
                               (b"\x31\x02\x30\x00", {1: [MAP]}),
                               (b"\x31\x05\x30\x03" + K, {1: [MAP], 6: [key("k")]}),
                               (b"\x31\x05\x30\x80" + K, {1: [MAP], 6: [key("k")]}),
                               (b"\x31\x07\x30\x80" + K + N, {1: [MAP], 6: [key("k")], 8: [NULL]}),
                               (b"\x31\x08\x30\x80" + K + N + b"\x00", {1: [MAP], 6: [key("k")], 8: [NULL]}),
                               (b"\x31\x02\x30\x80", {1: [MAP]}),
                               (b"\x24\x01\x04", {}), (b"\x30\x02\x24\x80", {1: [LIST]}),
                               (b"\x30\x05\x24\x80\x04\x01a", {1: [LIST]}),
                               (b"\x30\x03\x31\x01\x30", {1: [LIST], 3: [MAP]})):
            self.check_ends_too_early(octets, events)
            for octet in (0, 4, 5, 12, 48, 255):
                self.check_fails(octets + bytes([octet]), len(octets), events)

    def test_that_list_does_not_close_within_others(self):
        events = {1: [LIST], 3: [LIST], 5: [LIST]}
        self.check_ends_too_early(b"\x30\x04\x30\x02\x30\x80", events)
        self.check_fails(b"\x30\x04\x30\x02\x30\x80\x00", 6, events)
        self.check_fails(b"\x30\x80\x30\x02\x30\x80\x00\x00\x00\x00", 6, events)
        self.check_fails(b"\x31\x80\x30\x03" + K + N, 7, {1: [MAP], 6: [key("k")]})
        self.check_fails(b"\x31\x80\x30\x00\x00\x00", 4, {1: [MAP]})

    def test_entries(self):
        wanted = ("map", (((107,), ("null",)),))
        for entry in (definite, endless):
            for around in (definite, endless):
                for of_key in (b"\x0c\x01k", definite(44, b"\x04\x01k"), endless(44, b"\x04\x01k")):
                    self.check_value(around(49, entry(48, of_key + N)), wanted)

    def test_wrong_entries(self):
        for tag in (1, 2, 4, 5, 9, 12, 36, 44, 49):
            self.check_fails(b"\x31\x80" + bytes([tag, 0]), 2)
        self.check_fails(b"\x31\x80\x30\x80\x00\x00", 4)
        self.check_fails(b"\x31\x80\x30\x80" + K + END, 7)
        self.check_fails(b"\x31\x80\x30\x80" + N + N, 4)
        self.check_fails(b"\x31\x80\x30\x80\x04\x01k" + N, 4)

    def test_octets_behind_the_value_of_an_entry(self):
        for octet in (0, 4, 5, 48, 255):
            self.check_fails(b"\x31\x80\x30\x07" + K + N + bytes([octet, 0]), 9)
            if octet != 0:
                self.check_fails(b"\x31\x80\x30\x80" + K + N + bytes([octet, 0]), 9)
        self.check_ends_too_early(b"\x31\x80\x30\x07" + K + N)
        self.check_fails(b"\x31\x80\x30\x80" + K + N + b"\x00\x01", 10)

    def test_keys_again(self):
        one = b"\x30\x05" + K + N
        self.check_fails(b"\x31\x80" + one + b"\x30\x80" + K, 13)
        self.check_fails(b"\x31\x80" + one + b"\x30\x80\x2c\x80\x04\x01k\x00\x00", 17)
        self.check_fails(b"\x31\x80" + one + b"\x30\x80\x2c\x03\x04\x01k" + N, 15)
        self.check_fails(b"\x31\x80" + one + b"\x30\x80\x2c\x05\x04\x01k\x04\x00" + N, 17)
        self.check_fails(b"\x31\x80" + one + b"\x30\x80\x0c\x82\x00\x01k" + N, 15)
        empty = b"\x30\x04\x0c\x00" + N
        self.check_fails(b"\x31\x80" + empty + b"\x30\x80\x0c\x00" + N, 11)
        self.check_fails(b"\x31\x80" + empty + b"\x30\x80\x0c\x82\x00\x00" + N, 13)
        self.check_fails(b"\x31\x80" + empty + b"\x30\x80\x2c\x00" + N, 11)
        self.check_fails(b"\x31\x80" + empty + b"\x30\x80\x2c\x80\x00\x00" + N, 13)
        inner = definite(49, one + definite(48, b"\x0c\x01l" + N))
        self.check_fails(b"\x31\x80\x30\x80" + K + inner + END + b"\x30\x80" + K, 29)

    def test_keys_that_another_map_has(self):
        one = definite(48, K + N)
        for octets in (definite(49, definite(48, K + definite(49, one))),
                       definite(48, definite(49, one) + definite(49, one)),
                       endless(49, one + definite(48, b"\x0c\x01K" + N) + definite(48, b"\x0c\x00" + N)),
                       endless(49, endless(48, b"\x0c\x01a" + endless(49, one)) + one)):
            self.check_taken(octets)


class LevelsTest(BerScanTest):
    def test_levels(self):
        self.check_levels("ber", [(b"\x30\x80", 0), (b"\x31\x80\x30\x80\x0c\x00", 0)])

    def test_definite_levels(self):
        octets = b""
        for _ in range(24):
            octets = definite(48, octets)
        self.check_taken(octets)
        self.check_fails(b"\x30\x30" + octets, 2 * 24)
        for deeper in (b"\x30\x00", b"\x30\x80", b"\x31\x00", b"\x31\x80"):
            self.check_fails(b"\x30\x80" * 24 + deeper, 48)
            self.check_fails(b"\x31\x80\x30\x80\x0c\x00" * 24 + deeper, 144)

    def test_entries_do_not_count(self):
        octets = b"\x31\x80\x30\x80\x0c\x00" * 24 + N
        self.check_taken(octets + (END + END) * 24)
        self.check_taken(b"\x30\x80" * 23 + b"\x31\x80\x30\x80\x0c\x00" + N + b"\x00" * (4 + 46))

    def test_strings_in_segments_do_not_count(self):
        self.check_taken(b"\x30\x80" * 24 + b"\x24\x80\x04\x01a\x00\x00" + END * 24)
        self.check_taken(b"\x31\x80\x30\x80\x2c\x80\x00\x00" * 24 + b"\x2c\x00" + END * 48)

    def test_closed_levels_do_not_count(self):
        self.check_taken(b"\x30\x80" + (b"\x30\x80" * 23 + END * 23) * 3 + END)

    def test_ends_too_early(self):
        text = endless(44, b"\x04\x01\xc3\x04\x01\xa9")
        integer = b"\x02\x82\x00\x02\x01\x00"
        for whole in (endless(48, endless(49, endless(48, text + definite(9, b"\x03-1.5E-2")))),
                      definite(48, definite(49, definite(48, definite(44, b"\x04\x01k") + integer))),
                      definite(48, endless(48, b"\x04\x83\x00\x00\x02ab") + endless(36, b"\x04\x01a")),
                      endless(49, definite(48, K + b"\x01\x01\x07")),
                      N, b"\x04\x00", b"\x09\x00", b"\x05\xfe" + bytes(126)):
            self.check_beginnings(whole)
        self.check_ends_too_early(b"")


class AgainstTheOracleTest(BerScanTest):
    def test_texts_of_values(self):
        self.check_random_texts("ber", 76, 2500)

    def test_spoiled_texts(self):
        pool = list(b"\x00\x00\x01\x02\x03\x04\x05\x09\x0c\x24\x2c\x30\x31\x80\x81\x82 +-.,19Ee") + list(range(256))
        self.check_spoiled_texts("ber", 77, 5000, pool)

    def test_octets_at_random(self):
        pools = (b"\x00\x00\x05\x30\x31\x80\x02\x04\x0c", b"\x04\x00\x01\x02\x80\x81\x30", b"\x01\x02\x03 +-.,019Ee",
                 b"\x04\x00\x01\x02\xc3\xa9a", b"\x0c\x00\x05\x30\x01k\x04\x80")
        beginnings = [b"", b"\x30\x80", b"\x30\x06", b"\x31\x80", b"\x31\x0a", b"\x09\x06", b"\x2c\x80", b"\x24\x05",
                      b"\x31\x80\x30\x80", b"\x31\x09\x30\x07"]
        self.check_octets_at_random(78, 4000, beginnings, pools)


class ObjectsTest(BerScanTest):
    def test_two_side_by_side(self):
        ones = endless(49, endless(48, endless(44, b"\x04\x01a\x04\x01b") + definite(9, b"\x03-1.5E-2")))
        entry = definite(48, K + definite(36, b"\x04\x02ab"))
        twos = definite(48, b"\x02\x02\x01\x00" + definite(49, entry) + b"\x01\x01\xff")
        self.check_side_by_side(ones, twos)
        self.check_side_by_side(twos, ones)

    def test_returned_lists(self):
        for octets in (N, definite(48, definite(48, b"\x30\x00")), endless(49, definite(48, K + b"\x04\x01a"))):
            self.check_returned_lists(octets)
            self.check_kinds_of_events(octets)

    def test_a_long_text(self):
        items = endless(48, N + definite(9, b"\x02-1.5") + definite(4, b"text"))
        one = endless(49, definite(48, b"\x0c\x03key" + items))
        inner = ("list", (("null",), ("number", -15, -1), ("bytes", tuple(b"text"))))
        wanted = ("list", (("map", ((tuple(b"key"), inner),)),) * 2000)
        self.check_value(definite(48, one * 2000), wanted)
        self.check_value(endless(48, one * 2000), wanted)


if __name__ == "__main__":
    unittest.main()
