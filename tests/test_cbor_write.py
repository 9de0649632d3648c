import unittest

from formsalike.cbortree.write import cbor_lacks, write_cbor
from tests import cbororacle, samples, writing

ONE = ("number", 1, 0)
FAR = 10 ** 9


def key(string):
    return tuple(map(ord, string))


def normal(integer):
    e = 0
    while integer != 0 and integer % 10 == 0:
        integer, e = integer // 10, e + 1
    return ("number", integer, e)


def wide(n, many):
    return n.to_bytes(many, "big")


class CborWriteTest(writing.WriteTest):
    oracle = cbororacle

    def write(self, value):
        return write_cbor(value)

    def lacks(self, value):
        return cbor_lacks(value)

    def check_integer(self, integer, octets):
        self.check_written(normal(integer), octets)

    def check_decimal(self, m, e, octets):
        """A number that is written as tag 4, with the octets of exponent and mantissa."""
        self.check_written(("number", m, e), b"\xc4\x82" + octets)


class NumbersTest(CborWriteTest):
    def test_heads(self):
        for n, argument in ((0, b"\x00"), (1, b"\x01"), (22, b"\x16"), (23, b"\x17"), (24, b"\x18\x18"),
                            (25, b"\x18\x19"), (255, b"\x18\xff"), (256, b"\x19\x01\x00"), (65535, b"\x19\xff\xff"),
                            (65536, b"\x1a\x00\x01\x00\x00"), (2 ** 32 - 1, b"\x1a\xff\xff\xff\xff"),
                            (2 ** 32, b"\x1b\0\0\0\x01\0\0\0\0"), (2 ** 64 - 1, b"\x1b" + b"\xff" * 8)):
            self.check_integer(n, argument)
            self.check_integer(-1 - n, bytes([argument[0] + 32]) + argument[1:])

    def test_integers_below_zero(self):
        for n, octets in ((-23, b"\x36"), (-24, b"\x37"), (-25, b"\x38\x18"), (-255, b"\x38\xfe"), (-256, b"\x38\xff"),
                          (-257, b"\x39\x01\x00"), (-65535, b"\x39\xff\xfe"), (-65536, b"\x39\xff\xff"),
                          (-65537, b"\x3a\x00\x01\x00\x00"), (1 - 2 ** 32, b"\x3a\xff\xff\xff\xfe"),
                          (-2 ** 32, b"\x3a\xff\xff\xff\xff"), (-1 - 2 ** 32, b"\x3b\0\0\0\x01\0\0\0\0"),
                          (1 - 2 ** 64, b"\x3b" + b"\xff" * 7 + b"\xfe"), (-2 ** 64, b"\x3b" + b"\xff" * 8)):
            self.check_integer(n, octets)

    def test_integers_beyond_64_bits(self):
        self.check_integer(2 ** 64, b"\xc2\x49\x01" + b"\0" * 8)
        self.check_integer(-1 - 2 ** 64, b"\xc3\x49\x01" + b"\0" * 8)
        self.check_integer(2 ** 64 + 1, b"\xc2\x49\x01" + b"\0" * 7 + b"\x01")
        self.check_integer(2 ** 72 - 1, b"\xc2\x49" + b"\xff" * 9)
        self.check_integer(2 ** 72, b"\xc2\x4a\x01" + b"\0" * 9)
        self.check_integer(-2 ** 72, b"\xc3\x49" + b"\xff" * 9)
        self.check_integer(2 ** 184 - 1, b"\xc2\x57" + b"\xff" * 23)
        self.check_integer(2 ** 184, b"\xc2\x58\x18\x01" + b"\0" * 23)
        self.check_integer(-1 - 2 ** 2048, b"\xc3\x59\x01\x01\x01" + b"\0" * 256)
        m = 10 ** 1999 + 7
        self.check_integer(m, b"\xc2\x59\x03\x3f" + wide(m, 831))

    def test_exponents_from_0_to_64(self):
        for m in (1, -1, 7, 123456789, -(2 ** 70 + 1)):
            for e in range(65):
                integer = m * 10 ** e
                major, n = (0, integer) if integer >= 0 else (1, -1 - integer)
                self.check_written(("number", m, e), self.integer_octets(major, n))

    def integer_octets(self, major, n):
        if n < 24:
            return bytes([major * 32 + n])
        for info, many in ((24, 1), (25, 2), (26, 4), (27, 8)):
            if n < 256 ** many:
                return bytes([major * 32 + info]) + wide(n, many)
        octets = wide(n, (n.bit_length() + 7) // 8)
        head = bytes([64 + len(octets)] if len(octets) < 24 else [88, len(octets)])
        return bytes([0xC2 + major]) + head + octets

    def test_other_exponents(self):
        self.check_decimal(1, 65, b"\x18\x41\x01")
        self.check_decimal(-1, 65, b"\x18\x41\x20")
        self.check_decimal(1, -1, b"\x20\x01")
        self.check_decimal(15, -1, b"\x20\x0f")
        self.check_decimal(-15, -1, b"\x20\x2e")
        self.check_decimal(27315, -2, b"\x21\x19\x6a\xb3")
        self.check_decimal(1, -24, b"\x37\x01")
        self.check_decimal(1, -25, b"\x38\x18\x01")
        self.check_decimal(3, 255, b"\x18\xff\x03")
        self.check_decimal(3, 256, b"\x19\x01\x00\x03")

    def test_large_mantissas(self):
        self.check_decimal(2 ** 64 - 1, -1, b"\x20\x1b" + b"\xff" * 8)
        self.check_decimal(2 ** 64, -1, b"\x20\xc2\x49\x01" + b"\0" * 8)
        self.check_decimal(-2 ** 64, 65, b"\x18\x41\x3b" + b"\xff" * 8)
        self.check_decimal(-1 - 2 ** 64, 65, b"\x18\x41\xc3\x49\x01" + b"\0" * 8)
        m = 10 ** 1999 + 7
        self.check_decimal(m, 65, b"\x18\x41\xc2\x59\x03\x3f" + wide(m, 831))

    def test_exponents_at_the_edges(self):
        self.check_decimal(7, FAR, b"\x1a\x3b\x9a\xca\x00\x07")
        self.check_decimal(7, FAR - 1, b"\x1a\x3b\x9a\xc9\xff\x07")
        self.check_decimal(-7, -FAR, b"\x3a\x3b\x9a\xc9\xff\x26")
        self.check_decimal(-7, 1 - FAR, b"\x3a\x3b\x9a\xc9\xfe\x26")
        for e in (FAR + 1, -FAR - 1, FAR + 2, 2 ** 64, -2 ** 65, 10 ** 999, -10 ** 999):
            self.check_lacking(("number", 7, e))
            self.check_lacking(("number", -7, e))


class KindsTest(CborWriteTest):
    def test_null_and_truths(self):
        self.check_written(samples.NULL, b"\xf6")
        self.check_written(samples.FALSE, b"\xf4")
        self.check_written(samples.TRUE, b"\xf5")

    def test_bytes(self):
        self.check_written(("bytes", ()), b"\x40")
        self.check_written(("bytes", (0, 255)), b"\x42\x00\xff")
        for many, head in ((23, b"\x57"), (24, b"\x58\x18"), (255, b"\x58\xff"), (256, b"\x59\x01\x00"),
                           (65535, b"\x59\xff\xff"), (65536, b"\x5a\x00\x01\x00\x00")):
            self.check_written(("bytes", (7,) * many), head + b"\x07" * many)

    def test_texts(self):
        self.check_written(("text", ()), b"\x60")
        self.check_written(("text", key("a\u20ac\U0001f600")), b"\x68a\xe2\x82\xac\xf0\x9f\x98\x80")
        for many, head in ((23, b"\x77"), (24, b"\x78\x18"), (255, b"\x78\xff"), (256, b"\x79\x01\x00"),
                           (65535, b"\x79\xff\xff"), (65536, b"\x7a\x00\x01\x00\x00")):
            self.check_written(("text", (97,) * many), head + b"a" * many)
        self.check_written(("text", (0x20AC,) * 8), b"\x78\x18" + b"\xe2\x82\xac" * 8)

    def test_lists(self):
        self.check_written(("list", ()), b"\x80")
        self.check_written(("list", (ONE, ("list", (samples.NULL,)), ("map", ()))), b"\x83\x01\x81\xf6\xa0")
        for many, head in ((23, b"\x97"), (24, b"\x98\x18"), (255, b"\x98\xff"), (256, b"\x99\x01\x00"),
                           (65536, b"\x9a\x00\x01\x00\x00")):
            self.check_written(("list", (ONE,) * many), head + b"\x01" * many)

    def test_maps(self):
        self.check_written(("map", ()), b"\xa0")
        self.check_written(("map", (((), ("map", ())),)), b"\xa1\x60\xa0")
        self.check_written(("map", ((key("a"), ONE), (key("b"), ("list", (ONE,))))), b"\xa2aa\x01ab\x81\x01")
        for many, head in ((23, b"\xb7"), (24, b"\xb8\x18"), (256, b"\xb9\x01\x00")):
            entries = tuple((key("%03d" % at), ONE) for at in range(many))
            self.check_written(("map", entries), head + b"".join(b"c%03d\x01" % at for at in range(many)))


class OrderTest(CborWriteTest):
    def check_order(self, *names):
        value = ("map", tuple((key(name), ONE) for name in sorted(names)))
        written = b"".join(bytes(write_cbor(("text", key(name)))) + b"\x01" for name in names)
        self.check_written(value, bytes([0xA0 + len(names)]) + written)

    def test_shorter_keys_first(self):
        self.check_order("", "b", "aa")
        self.check_order("z", "aa", "ab", "aaa")
        self.check_order("\x7f", "aa")
        self.check_order("a" * 23, "a" * 24, "b" * 24, "a" * 255, "a" * 256)
        self.check_order("b", "c", "aa", "bb", "aaa")

    def test_shorter_in_octets(self):
        self.check_order("~~", "\u0080", "~~~", "\u20ac", "\U0001f600")
        self.check_order("b", "\u00e9", "ab\x00", "\u0800")
        self.check_order("bb", "\u00e9", "aaa")

    def test_octets_of_keys(self):
        self.check_order("a", "b", "\x7f")
        self.check_order("\u0080", "\u0081", "\u00c0", "\u07ff")
        self.check_order("\ud7ff", "\ue000", "\uffff", "\U00010000", "\U0010ffff")

    def test_entries_keep_their_values(self):
        value = ("map", ((key("aa"), ("text", key("x"))), (key("b"), ("map", ((key("cc"), ONE), (key("d"), ONE))))))
        self.check_written(value, b"\xa2ab\xa2ad\x01bcc\x01baaax")


class LacksTest(CborWriteTest):
    def test_the_first_one_in_preorder_counts(self):
        far, low = ("number", 1, FAR + 1), ("number", 1, -FAR - 1)
        self.check_lacks(("list", (ONE, low, far)), 2)
        self.check_lacks(("list", (("list", (ONE, far)), low)), 3)
        self.check_lacks(("list", (ONE,) * 1000 + (far,)), 1001)

    def test_preorder_is_not_the_order_of_writing(self):
        far = ("number", 1, FAR + 1)
        self.check_lacks(("map", ((key("aa"), ("list", (ONE, ONE))), (key("b"), far))), 4)
        self.check_lacks(("map", ((key("aa"), far), (key("b"), far))), 1)

    def test_nothing_is_lacking(self):
        for value in samples.random_values(71, 300) + samples.SMALL_TREES + [samples.nested(24)]:
            self.assertIsNone(cbor_lacks(value))


class WholeTest(CborWriteTest):
    def test_random_values(self):
        self.check_random_values("cbor", 72, 1000)

    def test_depth(self):
        self.check_depths("cbor")
        octets = b"".join(b"\xa1a%c\x81" % level for level in range(23, 0, -2))
        self.check_written(samples.nested(24), octets[:-1] + b"\x80")

    def test_the_returned_list(self):
        for value in samples.LEAVES[:5] + samples.LEAVES[6:] + samples.SMALL_TREES:
            self.check_returned_list(value)


if __name__ == "__main__":
    unittest.main()
