import random
import unittest

from formsalike.bencoded.read import read_bencode
from formsalike.bencoded.scan import BencodeScanner
from formsalike.bencoded.write import write_bencode
from tests import bencodeoracle, reading, samples

ONE = ("number", 1, 0)


class BencodeReadTest(reading.ReadTest):
    reader = staticmethod(read_bencode)
    scanner_class = BencodeScanner
    oracle = bencodeoracle
    form = "bencode"


class KindsTest(BencodeReadTest):
    def test_numbers(self):
        for octets, m, e in ((b"i0e", 0, 0), (b"i1e", 1, 0), (b"i-1e", -1, 0), (b"i10e", 1, 1), (b"i-1200e", -12, 2),
                             (b"i1002003e", 1002003, 0), (b"i9876543210e", 987654321, 1)):
            self.check_value(octets, "number", m, e)
            self.check_value(b"l" + octets + b"e", "list", (("number", m, e),))

    def test_many_digits(self):
        self.check_value(b"i" + b"9" * 3000 + b"e", "number", 10 ** 3000 - 1, 0)
        self.check_value(b"i-" + b"9" * 3000 + b"e", "number", 1 - 10 ** 3000, 0)

    def test_exponents(self):
        for m in (1, -35):
            self.check_value(b"i%d" % m + b"0" * 799 + b"e", "number", m, 799)
            self.check_value(b"i%d" % m + b"0" * 800 + b"e", "number", m, 800)
            octets = b"i%d" % m + b"0" * 801 + b"e"
            self.check_fails(octets, len(octets) - 1)
            self.check_fails(b"d1:a" + octets + b"e", len(octets) + 3)

    def test_bytes(self):
        self.check_value(b"0:", "bytes", ())
        self.check_value(b"4:spam", "bytes", tuple(b"spam"))
        self.check_value(b"10:0123456789", "bytes", tuple(b"0123456789"))
        self.check_value(b"256:" + bytes(range(256)), "bytes", tuple(range(256)))
        self.check_value(b"50000:" + b"e" * 50000, "bytes", (101,) * 50000)

    def test_lists(self):
        self.check_value(b"le", "list", ())
        self.check_value(b"li1e1:allee0:e", "list", (ONE, ("bytes", (97,)), ("list", (("list", ()),)), ("bytes", ())))

    def test_maps(self):
        self.check_value(b"de", "map", ())
        self.check_value(b"d0:i1ee", "map", (((), ONE),))
        self.check_value("d3:\u20acde4:\U0001f6004:abcde".encode(), "map", (
            ((0x20AC,), ("map", ())), ((0x1F600,), ("bytes", tuple(b"abcd")))))

    def test_entries_in_any_order(self):
        value = ("map", (((), ("number", 3, 0)), ((97,), ONE), ((97, 98), ("number", 4, 0)), ((98,), ("number", 2, 0))))
        entries = [b"0:i3e", b"1:ai1e", b"2:abi4e", b"1:bi2e"]
        chance = random.Random(84)
        for _ in range(24):
            self.check_value(b"d" + b"".join(entries) + b"e", *value)
            chance.shuffle(entries)

    def test_rows(self):
        for octets in (b"d1:ali1ei2eee", b"", b"l", b"i01e", b"3:abc"):
            self.check_rows(octets)


class PlacesTest(BencodeReadTest):
    def test_numbers(self):
        for octets, place in ((b"ie", 1), (b"i-e", 2), (b"i-0e", 2), (b"i-01e", 2), (b"i00e", 2), (b"i01e", 2),
                              (b"i--1e", 2),
                              (b"i+1e", 1), (b"i1-e", 2), (b"i1.5e", 2), (b"i 1e", 1), (b"i1 e", 2), (b"i:e", 1)):
            self.check_fails(octets, place)
            self.check_fails(b"l" + octets, place + 1)
            self.check_fails(b"d1:a" + octets, place + 4)

    def test_counts(self):
        for octets, place in ((b"00:", 1), (b"01:a", 1), (b"-1:a", 0), (b"+1:a", 0), (b":a", 0), (b"1;a", 1),
                              (b"1 :a", 1),
                              (b"1e", 1), (b"l05:", 2), (b"d00:", 2), (b"d01:a", 2), (b"d:", 1), (b"d-1:a", 1),
                              (b"d1e", 2)):
            self.check_fails(octets, place)

    def test_keys(self):
        for octets, place in ((b"d1:\x80i1ee", 3), (b"d1:\xffi1ee", 3), (b"d3:a\xc0\x80i1ee", 4), (b"d3:\xc3aai1ee", 4),
                              (b"d3:\xed\xa0\x80i1ee", 4), (b"d1:\xc3i1ee", 3), (b"d2:\xe2\x82i1ee", 4),
                              (b"d3:\xf0\x9f\x98i1ee", 5), (b"di1e0:e", 1), (b"dle0:e", 1), (b"dde0:e", 1)):
            self.check_fails(octets, place)

    def test_keys_again(self):
        for octets, place in ((b"d1:ai1e1:ai2ee", 9), (b"d0:i1e0:i2ee", 7), (b"d2:abi1e1:ai2e2:abi3ee", 17),
                              (b"d1:ad1:ai1e1:bi2ee1:ai3ee", 20), (b"ld1:a0:1:a0:ee", 9)):
            self.check_fails(octets, place)
        self.check_value(b"d1:ad1:ad1:a0:eee", "map", (((97,),
                                                        ("map", (((97,), ("map", (((97,), ("bytes", ())),))),))),))

    def test_other_octets(self):
        for octets, place in ((b"e", 0), (b" i1e", 0), (b"n", 0), (b"lx", 1), (b"d1:ae", 4), (b"d1:a1:be1", 8),
                              (b"\n", 0), (b"L", 0), (b"l\x00", 1)):
            self.check_fails(octets, place)

    def test_octets_behind_the_value(self):
        for octets in (b"i1e", b"0:", b"1:a", b"le", b"de", b"li1ee", b"d1:alee"):
            for behind in (b"e", b"i1e", b"0:", b" ", b"\n", b"\x00", b"l"):
                self.check_fails(octets + behind, len(octets))

    def test_beginnings(self):
        self.check_nothing()
        for octets in (b"i-120e", b"12:0123456789ab", b"0:", b"le", b"d0:0:1:ai1e3:\xe2\x82\xacl1:xd1:yleee1:bdee"):
            self.check_beginnings(octets)
        for octets in (b"i", b"i-", b"i1", b"1", b"1:", b"l", b"d", b"d1:", b"d1:a", b"d0:i1e",
                       b"99999999999999999999:a"):
            self.check_ends_too_early(octets)

    def test_depth(self):
        self.check_depth(b"l", b"e", [(b"l", 0), (b"d", 0)])
        value = ONE
        for _ in range(24):
            value = ("map", (((97,), value),))
        self.check_value(b"d1:a" * 24 + b"i1e" + b"e" * 24, *value)
        for deeper in (b"le", b"de"):
            self.check_fails(b"d1:a" * 24 + deeper + b"e" * 24, 96)


class WriterTest(BencodeReadTest):
    def check_written(self, value):
        self.check_value(bytes(write_bencode(value)), *value)

    def test_canonical_texts_are_read_as_the_value(self):
        for value in samples.random_values(85, 1000, "bencode"):
            self.check_written(value)
        for m in (1, -1, 10 ** 1999 + 1, 1 - 10 ** 2000):
            for e in (0, 1, 799, 800):
                self.check_written(("number", m, e))
        for levels in range(1, 25):
            self.check_written(samples.nested(levels))

    def test_other_texts_are_written_again_as_the_canonical_one(self):
        chance = random.Random(86)
        for value in samples.random_values(87, 1000, "bencode"):
            octets = bencodeoracle.random_text(value, chance)
            self.assertEqual(write_bencode(read_bencode(list(octets))), write_bencode(value))

    def test_entries_in_any_order_are_written_in_the_canonical_one(self):
        octets = b"d1:bi2e2:aai3e3:\xe2\x82\xac0:1:ai1e2:\xc3\xa90:0:lee"
        canonical = b"d0:le1:ai1e2:aai3e1:bi2e2:\xc3\xa90:3:\xe2\x82\xac0:e"
        self.assertEqual(bytes(write_bencode(read_bencode(list(octets)))), canonical)
        self.assertEqual(read_bencode(list(canonical)), read_bencode(list(octets)))


class AgainstTheScannerTest(BencodeReadTest):
    def test_ordinary_texts(self):
        self.check_random_texts(88, 1500)

    def test_spoiled_texts(self):
        self.check_spoiled_texts(89, 5000, b"0123456789:::lldie-\xc3\xa9\xff\x00")

    def test_each_fault(self):
        for octets in (b"d1:al2:xyi-12ee3:\xe2\x82\xacdee", b"l10:0123456789i120e0:e", b"d0:d1:k0:e1:ali0eee"):
            self.check_each_fault(octets, b"0129:lidea-\x00\x80\xc3\xff")


if __name__ == "__main__":
    unittest.main()
