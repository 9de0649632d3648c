import unittest

from formsalike.bencoded.read import read_bencode
from formsalike.bencoded.scan import BencodeScanner
from tests import bencodeoracle, scanning
from tests.scanning import CLOSE, LIST, MAP, key, leaf

DIGITS = b"0123456789"
VALUES = DIGITS + b"ild"


def number(m, e=0):
    return leaf("number", m, e)


def octets_of(octets):
    return leaf("bytes", tuple(octets))


class BencodeScanTest(scanning.ScanTest):
    scanner_class = BencodeScanner
    reader = staticmethod(read_bencode)
    oracle = bencodeoracle


class EventPlacesTest(BencodeScanTest):
    def test_numbers_with_their_e(self):
        self.check_events(b"i0e", {2: [number(0)]})
        self.check_events(b"i-12e", {4: [number(-12)]})
        self.check_events(b"li7ei-8ee", {0: [LIST], 3: [number(7)], 7: [number(-8)], 8: [CLOSE]})

    def test_bytes_with_the_last_octet(self):
        self.check_events(b"0:", {1: [octets_of(b"")]})
        self.check_events(b"1:e", {2: [octets_of(b"e")]})
        self.check_events(b"4:sp:m", {5: [octets_of(b"sp:m")]})
        self.check_events(b"12:0123456789ab", {14: [octets_of(b"0123456789ab")]})
        self.check_events(b"l0:0:1:xe", {0: [LIST], 2: [octets_of(b"")], 4: [octets_of(b"")], 7: [octets_of(b"x")],
                                         8: [CLOSE]})

    def test_lists(self):
        self.check_events(b"le", {0: [LIST], 1: [CLOSE]})
        self.check_events(b"lleldeee", {0: [LIST], 1: [LIST], 2: [CLOSE], 3: [LIST], 4: [MAP], 5: [CLOSE], 6: [CLOSE],
                                        7: [CLOSE]})

    def test_maps(self):
        self.check_events(b"de", {0: [MAP], 1: [CLOSE]})
        self.check_events(b"d0:0:e", {0: [MAP], 2: [key("")], 4: [octets_of(b"")], 5: [CLOSE]})
        self.check_events(b"d1:ai1e2:bcd0:leee", {
            0: [MAP], 3: [key("a")], 6: [number(1)], 10: [key("bc")], 11: [MAP], 13: [key("")], 14: [LIST],
            15: [CLOSE], 16: [CLOSE], 17: [CLOSE]})

    def test_keys_in_the_order_of_the_text(self):
        self.check_events(b"d1:bi1e1:ai2e0:i3ee", {
            0: [MAP], 3: [key("b")], 6: [number(1)], 9: [key("a")], 12: [number(2)], 14: [key("")], 17: [number(3)],
            18: [CLOSE]})

    def test_keys_in_utf8(self):
        self.check_events("d3:\u20acde4:\U0001f6004:abcde".encode(), {
            0: [MAP], 5: [key("\u20ac")], 6: [MAP], 7: [CLOSE], 13: [key("\U0001f600")],
            19: [octets_of(b"abcd")], 20: [CLOSE]})

    def test_the_end_gives_nothing(self):
        self.assertEqual(self.scan(b"le")[0], [[LIST], [CLOSE], []])


class NumbersTest(BencodeScanTest):
    def test_worths(self):
        for octets, m, e in ((b"i0e", 0, 0), (b"i1e", 1, 0), (b"i-1e", -1, 0), (b"i10e", 1, 1), (b"i-1200e", -12, 2),
                             (b"i1002003e", 1002003, 0), (b"i9876543210e", 987654321, 1)):
            self.check_value(octets, ("number", m, e))
            self.check_value(b"l" + octets + b"e", ("list", (("number", m, e),)))

    def test_what_can_stand(self):
        self.check_can_stand(b"i", DIGITS + b"-")
        self.check_can_stand(b"i-", b"123456789")
        self.check_can_stand(b"i0", b"e")
        self.check_can_stand(b"i5", DIGITS + b"e")
        self.check_can_stand(b"i-5", DIGITS + b"e")
        self.check_can_stand(b"i50", DIGITS + b"e")
        self.check_can_stand(b"li-90", DIGITS + b"e")

    def test_octets_that_fail(self):
        for octets, place in ((b"ie", 1), (b"i-e", 2), (b"i-0e", 2), (b"i-01e", 2), (b"i00e", 2), (b"i01e", 2),
                              (b"i--1e", 2), (b"i+1e", 1), (b"i1-e", 2), (b"i1.5e", 2), (b"i 1e", 1), (b"i1 e", 2),
                              (b"i1ee", 3), (b"i1l", 2), (b"i:e", 1), (b"i0-", 2), (b"iae", 1), (b"I1e", 0)):
            self.check_fails(octets, place)

    def test_many_digits(self):
        nines = b"9" * 3000
        self.check_value(b"i" + nines + b"e", ("number", 10 ** 3000 - 1, 0))
        self.check_value(b"i-" + nines + b"e", ("number", 1 - 10 ** 3000, 0))
        self.check_value(b"i1" + b"0" * 2198 + b"1" + b"0" * 800 + b"e", ("number", 10 ** 2199 + 1, 800))
        self.check_value(b"i" + b"7" * 6000 + b"e", ("number", (10 ** 6000 - 1) // 9 * 7, 0))

    def test_exponents(self):
        for begin in (b"1", b"-1", b"35", b"10203"):
            m = int(begin)
            for zeros in (799, 800):
                self.check_value(b"i" + begin + b"0" * zeros + b"e", ("number", m, zeros))
            for zeros in (801, 802, 2900):
                octets = b"i" + begin + b"0" * zeros + b"e"
                self.check_fails(octets, len(octets) - 1)
                self.check_fails(b"l" + octets + b"e", len(octets))
                self.check_fails(b"d1:a" + octets + b"e", len(octets) + 3)
        self.check_value(b"i1" + b"0" * 801 + b"1e", ("number", 10 ** 802 + 1, 0))


class StringsTest(BencodeScanTest):
    def test_counts(self):
        self.check_can_stand(b"0", b":")
        self.check_can_stand(b"5", DIGITS + b":")
        self.check_can_stand(b"10", DIGITS + b":")
        self.check_can_stand(b"l0", b":")
        self.check_can_stand(b"d0", b":")
        self.check_can_stand(b"d7", DIGITS + b":")
        self.check_can_stand(b"d1:a0", b":")

    def test_zeros_before_counts(self):
        for octets, place in ((b"00:", 1), (b"01:a", 1), (b"l05:", 2), (b"d00:", 2), (b"d01:a", 2), (b"d1:a02:", 5)):
            self.check_fails(octets, place)

    def test_other_octets_in_counts(self):
        for octets, place in ((b"-1:a", 0), (b"+1:a", 0), (b":a", 0), (b"1;a", 1), (b"1 :a", 1), (b"1-:a", 1),
                              (b"1e", 1), (b"d-1:a", 1), (b"d:", 1), (b"d1e", 2), (b"1l", 1)):
            self.check_fails(octets, place)

    def test_any_octets_in_bytes(self):
        self.check_value(b"256:" + bytes(range(256)), ("bytes", tuple(range(256))))
        self.check_can_stand(b"1:", range(256))
        self.check_can_stand(b"2:\xff", range(256))

    def test_long_bytes(self):
        self.check_value(b"100000:" + b"e" * 100000, ("bytes", tuple(b"e" * 100000)))
        self.check_ends_too_early(b"99999999999999999999999999:abc")

    def test_what_can_stand_in_keys(self):
        begins = set(range(128)) | set(range(0xC2, 0xF5))
        self.check_can_stand(b"d5:", begins)
        self.check_can_stand(b"d5:a", begins)
        self.check_can_stand(b"d1:", range(128))
        self.check_can_stand(b"d2:a", range(128))
        self.check_can_stand(b"d2:\xc3", range(0x80, 0xC0))
        self.check_can_stand(b"d4:\xc3", range(0x80, 0xC0))
        self.check_can_stand(b"d3:\xe0", range(0xA0, 0xC0))
        self.check_can_stand(b"d3:\xed", range(0x80, 0xA0))
        self.check_can_stand(b"d4:\xf4", range(0x80, 0x90))
        self.check_can_stand(b"d4:\xf0\x90\x80", range(0x80, 0xC0))

    def test_keys_that_end_within_a_character(self):
        for octets, place in ((b"d1:\xc3i1ee", 3), (b"d2:\xe2\x82i1ee", 4), (b"d3:\xf0\x9f\x98i1ee", 5),
                              (b"d4:abc\xc3\xa9i1ee", 6), (b"d2:\xf0\x9fi1ee", 4)):
            self.check_fails(octets, place)

    def test_keys_that_are_not_utf8(self):
        for octets, place in ((b"d1:\x80", 3), (b"d1:\xff", 3), (b"d3:a\xc0\x80", 4), (b"d3:\xc3aa", 4),
                              (b"d3:\xed\xa0\x80", 4), (b"d4:\xf5\x80\x80\x80", 3), (b"d3:\xe0\x80\x80", 4)):
            self.check_fails(octets, place)

    def test_keys_again(self):
        self.check_fails(b"d1:ai1e1:ai2ee", 9)
        self.check_fails(b"d0:i1e0:i2ee", 7)
        self.check_fails(b"d2:abi1e1:ai2e2:abi3ee", 17)
        self.check_fails("d3:\u20aci1e1:a0:3:\u20aci3ee".encode(), 18)
        self.check_fails(b"d1:ad1:ai1e1:bi2ee1:ai3ee", 20)
        self.check_fails(b"ld1:a0:1:a0:ee", 9)

    def test_keys_that_another_map_has(self):
        for octets in (b"d1:ad1:ad1:a0:eee", b"ld1:a0:ed1:a0:ee", b"d1:a1:a1:A0:2:aa0:0:0:e",
                       b"d1:ald1:b0:ed1:b0:ee1:b0:e"):
            self.check_taken(octets)

    def test_keys_in_any_order(self):
        value = ("map", (((), ("number", 3, 0)), ((97,), ("number", 1, 0)), ((98,), ("number", 2, 0))))
        self.check_value(b"d1:ai1e1:bi2e0:i3ee", value)
        self.check_value(b"d1:bi2e0:i3e1:ai1ee", value)
        self.check_value(b"d0:i3e1:ai1e1:bi2ee", value)


class PlacesTest(BencodeScanTest):
    def test_where_a_value_is_wanted(self):
        self.check_can_stand(b"", VALUES)
        self.check_can_stand(b"l", VALUES + b"e")
        self.check_can_stand(b"li1e", VALUES + b"e")
        self.check_can_stand(b"l0:", VALUES + b"e")
        self.check_can_stand(b"lle", VALUES + b"e")
        self.check_can_stand(b"lde", VALUES + b"e")
        self.check_can_stand(b"d1:a", VALUES)
        self.check_can_stand(b"d0:", VALUES)

    def test_where_a_key_is_wanted(self):
        self.check_can_stand(b"d", DIGITS + b"e")
        self.check_can_stand(b"d1:ai1e", DIGITS + b"e")
        self.check_can_stand(b"d1:a0:", DIGITS + b"e")
        self.check_can_stand(b"d1:ale", DIGITS + b"e")
        self.check_can_stand(b"d1:ade", DIGITS + b"e")
        self.check_can_stand(b"d1:a1:b", DIGITS + b"e")

    def test_octets_behind_the_value(self):
        for whole in (b"i1e", b"0:", b"1:a", b"le", b"de", b"li1ee", b"d1:alee"):
            self.check_can_stand(whole, b"")

    def test_other_octets(self):
        for octets, place in ((b"e", 0), (b" i1e", 0), (b"n", 0), (b"le ", 2), (b"lx", 1), (b"dl", 1), (b"di1e", 1),
                              (b"d1:ae", 4), (b"d1:a1:be1", 8), (b"lee", 2), (b"dee", 2), (b"\n", 0), (b"L", 0)):
            self.check_fails(octets, place)

    def test_ends_too_early(self):
        for whole in (b"i-120e", b"12:0123456789ab", b"0:", b"le", b"d0:0:1:ai1e3:\xe2\x82\xacl1:xd1:yleee1:bdee",
                      b"lllleeee", b"d1:b0:1:a0:e"):
            self.check_beginnings(whole)
        self.check_ends_too_early(b"")

    def test_levels(self):
        self.check_levels("bencode", [(b"l", 0), (b"d1:a", 0)])
        self.check_fails(b"l" * 23 + b"deld", 23 + 3)
        self.check_fails(b"d1:a" * 24 + b"d", 96)

    def test_closed_levels_do_not_count(self):
        self.check_taken(b"l" + (b"l" * 23 + b"e" * 23) * 3 + b"e")
        self.check_taken(b"d1:a" + b"d1:a" * 22 + b"le" + b"e" * 22 + b"1:b" + b"l" * 23 + b"e" * 24)


class AgainstTheOracleTest(BencodeScanTest):
    def test_texts_of_values(self):
        self.check_random_texts("bencode", 64, 1500)

    def test_spoiled_texts(self):
        self.check_spoiled_texts("bencode", 65, 4000, b"0123456789:::lldie-\xc3\xa9\xff")

    def test_octets_at_random(self):
        pools = (b"lde01:", b"i-0123e", b"d1:abe0:", b"l1:i0ed1\xc3\xa9:")
        self.check_octets_at_random(66, 3000, [b"", b"l", b"d", b"d1:a"], pools)


class ObjectsTest(BencodeScanTest):
    def test_two_side_by_side(self):
        ones, twos = b"d1:al2:xyi12ee3:\xe2\x82\xacdee", b"li-7ed1:al0:e1:bd1:ai1eeee"
        self.check_side_by_side(ones, twos)
        self.check_side_by_side(twos, ones)

    def test_returned_lists(self):
        for octets in (b"i12e", b"3:abc", b"d1:al2:xyi12ee3:\xe2\x82\xacdee"):
            self.check_returned_lists(octets)
            self.check_kinds_of_events(octets)

    def test_a_long_text(self):
        octets = b"l" + b"d3:keyl3:abci-15eee" * 2000 + b"e"
        inner = ("list", (("bytes", tuple(b"abc")), ("number", -15, 0)))
        self.check_value(octets, ("list", (("map", ((tuple(b"key"), inner),)),) * 2000))


if __name__ == "__main__":
    unittest.main()
