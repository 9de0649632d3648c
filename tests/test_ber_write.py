import unittest

from formsalike.bertree.read import read_ber
from formsalike.bertree.write import write_ber
from tests import beroracle, samples, writing
from tests.writeoracles import ORACLES

ONE = ("number", 1, 0)
EDGES = (0, 1, 2, 126, 127, 128, 129, 254, 255, 256, 257, 1000, 65534, 65535, 65536, 65537)


def key(string):
    return tuple(map(ord, string))


def normal(integer):
    e = 0
    while integer != 0 and integer % 10 == 0:
        integer, e = integer // 10, e + 1
    return ("number", integer, e)


def length_of(many):
    """The octets of a length, written by hand."""
    if many < 128:
        return bytes([many])
    return b"\x81%c" % many if many < 256 else b"\x82" + many.to_bytes(2, "big") if many < 65536 else \
        b"\x83" + many.to_bytes(3, "big")


class BerWriteTest(writing.WriteTest):
    oracle = beroracle

    def write(self, value):
        return write_ber(value)

    def lacks(self, value):
        return None

    def check_integer(self, integer, octets):
        self.check_written(normal(integer), bytes([2, len(octets)]) + octets)

    def check_decimal(self, m, e, octets):
        self.check_written(("number", m, e), b"\x09" + length_of(len(octets)) + octets)
        self.check_written(("number", -m, e), b"\x09" + length_of(len(octets) + 1) + b"\x03-" + octets[1:])


class KindsTest(BerWriteTest):
    def test_null_and_truths(self):
        self.check_written(samples.NULL, b"\x05\x00")
        self.check_written(samples.FALSE, b"\x01\x01\x00")
        self.check_written(samples.TRUE, b"\x01\x01\xff")

    def test_bytes(self):
        for many in EDGES:
            self.check_written(("bytes", (7,) * many), b"\x04" + length_of(many) + b"\x07" * many)
        self.check_written(("bytes", tuple(range(256))), b"\x04\x82\x01\x00" + bytes(range(256)))

    def test_texts(self):
        for many in EDGES:
            self.check_written(("text", (97,) * many), b"\x0c" + length_of(many) + b"a" * many)
        self.check_written(("text", key("a\u20ac\U0001f600")), b"\x0c\x08a\xe2\x82\xac\xf0\x9f\x98\x80")
        self.check_written(("text", (0x20AC,) * 43), b"\x0c\x81\x81" + b"\xe2\x82\xac" * 43)

    def test_lists(self):
        self.check_written(("list", ()), b"\x30\x00")
        self.check_written(("list", (ONE,)), b"\x30\x03\x02\x01\x01")
        self.check_written(("list", (samples.NULL, ("list", ()), ("map", ()), samples.TRUE)),
                           b"\x30\x09\x05\x00\x30\x00\x31\x00\x01\x01\xff")
        for many in (63, 64, 127, 128, 32767, 32768):
            self.check_written(("list", (samples.NULL,) * many), b"\x30" + length_of(2 * many) + b"\x05\x00" * many)

    def test_maps(self):
        self.check_written(("map", ()), b"\x31\x00")
        self.check_written(("map", (((), samples.NULL),)), b"\x31\x06\x30\x04\x0c\x00\x05\x00")
        self.check_written(("map", ((key("a"), ONE), (key("b"), ("list", (ONE,))))),
                           b"\x31\x12\x30\x06\x0c\x01a\x02\x01\x01\x30\x08\x0c\x01b\x30\x03\x02\x01\x01")
        self.check_written(("map", ((key("k"), ("map", ())),)), b"\x31\x07\x30\x05\x0c\x01k\x31\x00")

    def test_lengths_of_entries_and_maps(self):
        for many in EDGES[3:]:
            inner = b"\x0c\x01k\x04" + length_of(many) + b"\x07" * many
            entry = b"\x30" + length_of(len(inner)) + inner
            self.check_written(("map", ((key("k"), ("bytes", (7,) * many)),)), b"\x31" + length_of(len(entry)) + entry)


class NumbersTest(BerWriteTest):
    def test_zero_and_minus_one(self):
        self.check_integer(0, b"\x00")
        self.check_integer(-1, b"\xff")

    def test_small(self):
        for integer, octets in ((1, b"\x01"), (127, b"\x7f"), (128, b"\x00\x80"), (129, b"\x00\x81"),
                                (255, b"\x00\xff"), (256, b"\x01\x00"), (-2, b"\xfe"), (-127, b"\x81"),
                                (-128, b"\x80"), (-129, b"\xff\x7f"), (-255, b"\xff\x01"), (-256, b"\xff\x00"),
                                (-257, b"\xfe\xff"), (32767, b"\x7f\xff"), (32768, b"\x00\x80\x00"),
                                (-32768, b"\x80\x00"), (-32769, b"\xff\x7f\xff")):
            self.check_integer(integer, octets)

    def test_each_edge(self):
        for many in (1, 2, 3, 4, 5, 7, 8, 9, 15, 16, 17, 100):
            edge = 1 << (8 * many - 1)
            self.check_integer(edge - 1, b"\x7f" + b"\xff" * (many - 1))
            self.check_integer(edge, b"\x00\x80" + b"\x00" * (many - 1))
            self.check_integer(-edge, b"\x80" + b"\x00" * (many - 1))
            self.check_integer(-edge - 1, b"\xff\x7f" + b"\xff" * (many - 1))
            self.check_integer(2 * edge, b"\x01" + b"\x00" * many)
            self.check_integer(2 * edge - 1, b"\x00" + b"\xff" * many)
            self.check_integer(-2 * edge, b"\xff" + b"\x00" * many)

    def test_many_digits(self):
        for m in (10 ** 1999 + 7, -(10 ** 1999) - 7):
            for e in (0, 64):
                integer = m * 10 ** e
                many = next(many for many in range(800, 900) if -1 << (8 * many - 1) <= integer < 1 << (8 * many - 1))
                self.check_written(("number", m, e),
                                   b"\x02" + length_of(many) + integer.to_bytes(many, "big", signed=True))

    def test_exponents_from_0_to_64(self):
        for m in (1, -1, 7, -13, 123456789, -(2 ** 70 + 1)):
            for e in range(65):
                integer = m * 10 ** e
                many = next(many for many in range(1, 99) if -1 << (8 * many - 1) <= integer < 1 << (8 * many - 1))
                octets = integer.to_bytes(many, "big", signed=True)
                self.check_written(("number", m, e), b"\x02" + length_of(many) + octets)

    def test_other_exponents(self):
        self.check_decimal(1, 65, b"\x031.E65")
        self.check_decimal(1, 66, b"\x031.E66")
        self.check_decimal(1, -1, b"\x031.E-1")
        self.check_decimal(15, -1, b"\x0315.E-1")
        self.check_decimal(27315, -2, b"\x0327315.E-2")
        self.check_decimal(123, -64, b"\x03123.E-64")
        self.check_decimal(3, 100, b"\x033.E100")

    def test_any_size(self):
        m, far = 10 ** 1999 + 1, 10 ** 999 + 3
        digits = b"1" + b"0" * 1998 + b"1"
        self.check_decimal(m, 65, b"\x03" + digits + b".E65")
        self.check_decimal(m, -1, b"\x03" + digits + b".E-1")
        self.check_decimal(7, far, b"\x037.E1" + b"0" * 998 + b"3")
        self.check_decimal(7, -far, b"\x037.E-1" + b"0" * 998 + b"3")
        self.check_decimal(m, -far, b"\x03" + digits + b".E-1" + b"0" * 998 + b"3")
        self.check_decimal(10 ** 122 + 1, 65, b"\x031" + b"0" * 121 + b"1.E65")
        self.check_decimal(10 ** 2500 + 1, 65, b"\x031" + b"0" * 2499 + b"1.E65")


class OrderTest(BerWriteTest):
    def check_order(self, *entries):
        """The entries, given in the order in which they are written."""
        value = ("map", tuple(sorted(entries, key=lambda entry: entry[0])))
        written = b""
        for points, part in entries:
            inner = bytes(write_ber(("text", points))) + bytes(write_ber(part))
            written += b"\x30" + length_of(len(inner)) + inner
        self.check_written(value, b"\x31" + length_of(len(written)) + written)

    def test_by_points_where_all_is_of_one_length(self):
        self.check_order(*[(key(name), ONE) for name in ("a", "b", "c", "\x7f")])
        self.check_order(*[(key(name), ONE) for name in ("aa", "ab", "b\x00", "\u0080", "\u07ff")])

    def test_by_the_length_of_the_key(self):
        self.check_order((key("b"), ONE), (key("aa"), ONE), (key("aaa"), ONE))
        self.check_order((key("~"), ONE), (key("\u0080"), ONE), (key("\ud7ff"), ONE), (key("\U00010000"), ONE))
        self.check_order((key("z"), ONE), (key("z" * 9), ONE), (key("a" * 100), ONE), (key("a" * 300), ONE))

    def test_by_the_length_of_the_value(self):
        self.check_order((key("b"), samples.NULL), (key("a"), ONE))
        self.check_order((key("c"), ("bytes", ())), (key("b"), ("bytes", (1,))), (key("a"), ("bytes", (1, 2))))
        self.check_order((key("bbb"), samples.NULL), (key("aa"), ("bytes", (1, 2, 3))))
        self.check_order((key("b"), ("bytes", (9,) * 120)), (key("a"), ("bytes", (9,) * 124)),
                         (key("c"), ("bytes", (9,) * 200)), (key(""), ("bytes", (9,) * 300)))

    def test_the_same_length_of_the_whole(self):
        self.check_order((key("b"), ("bytes", (1, 2))), (key("aa"), ("bytes", (1,))), (key("ccc"), ("bytes", ())))

    def test_within_one_another(self):
        inner = ("map", ((key("aa"), ONE), (key("b"), ONE)))
        self.check_order((key("z"), ONE), (key("a"), inner))
        self.check_written(inner, b"\x31\x11\x30\x06\x0c\x01b\x02\x01\x01\x30\x07\x0c\x02aa\x02\x01\x01")


class WholeTest(BerWriteTest):
    def test_random_values(self):
        self.check_random_values("ber", 141, 500)
        self.check_random_canonical("ber", 142, 600)

    def test_small_values(self):
        for value in samples.LEAVES + samples.SMALL_TREES:
            self.check_canonical("ber", value)

    def test_read_again(self):
        pool = b"\x00\x01\x02\x04\x05\x09\x0c\x24\x2c\x30\x31\x7f\x80\x81\x82\xff.E-+ 13"
        self.check_read_again(read_ber, 143, 1000, "ber", pool)

    def test_other_texts_of_the_same_value(self):
        for octets, written in ((b"\x30\x80\x02\x01\x01\x00\x00", b"\x30\x03\x02\x01\x01"),
                                (b"\x30\x81\x03\x02\x01\x01", b"\x30\x03\x02\x01\x01"),
                                (b"\x24\x80\x04\x01a\x04\x01b\x00\x00", b"\x04\x02ab"), (b"\x2c\x00", b"\x0c\x00"),
                                (b"\x01\x01\x05", b"\x01\x01\xff"), (b"\x09\x00", b"\x02\x01\x00"),
                                (b"\x09\x05\x02 1.5", b"\x09\x07\x0315.E-1"), (b"\x09\x04\x01100", b"\x02\x01\x64")):
            self.assertEqual(bytes(write_ber(read_ber(list(octets)))), written)
            self.assertEqual(bytes(write_ber(read_ber(list(written)))), written)

    def test_depth(self):
        self.check_depths("ber")
        for many in (100, 127, 200, 250, 65000, 65500):
            value, octets = ("bytes", (1,) * many), b"\x04" + length_of(many) + b"\x01" * many
            for _ in range(24):
                value, octets = ("list", (value,)), b"\x30" + length_of(len(octets)) + octets
            self.check_written(value, octets)
        value = ("bytes", (1,) * 100)
        for level in range(7):
            value = ("map", ((key("k" * level), ("list", (value, ONE))), (key("l"), value)))
            self.check_written(value, ORACLES["ber"].canonical(value))

    def test_deeper_values(self):
        """Nothing is promised beyond depth 24 but that the limit of values raises no error."""
        value = samples.nested(30, ONE, False)
        self.assertEqual(bytes(write_ber(value)), ORACLES["ber"].canonical(value))

    def test_the_returned_list(self):
        for value in samples.LEAVES + samples.SMALL_TREES:
            self.check_returned_list(value)


if __name__ == "__main__":
    unittest.main()
