import unittest

from formsalike.bencoded.write import bencode_lacks, write_bencode
from tests import bencodeoracle, samples, writing

ONE = ("number", 1, 0)


def bytes_of(octets):
    return ("bytes", tuple(octets))


def key(string):
    return tuple(map(ord, string))


class BencodeWriteTest(writing.WriteTest):
    oracle = bencodeoracle

    def write(self, value):
        return write_bencode(value)

    def lacks(self, value):
        return bencode_lacks(value)


class KindsTest(BencodeWriteTest):
    def test_numbers(self):
        self.check_written(("number", 0, 0), b"i0e")
        self.check_written(("number", 1, 0), b"i1e")
        self.check_written(("number", -1, 0), b"i-1e")
        self.check_written(("number", 42, 0), b"i42e")
        self.check_written(("number", -12, 3), b"i-12000e")
        self.check_written(("number", 2 ** 64 + 1, 0), b"i18446744073709551617e")

    def test_exponents(self):
        self.check_written(("number", 7, 1), b"i70e")
        self.check_written(("number", 7, 800), b"i7" + b"0" * 800 + b"e")
        self.check_written(("number", -123, 799), b"i-123" + b"0" * 799 + b"e")
        for e in (-1, -2, -10 ** 999, 801, 802, 10 ** 999):
            self.check_lacking(("number", 7, e))
            self.check_lacking(("number", -7, e))

    def test_many_digits(self):
        m = 10 ** 1999 + 1
        digits = b"1" + b"0" * 1998 + b"1"
        self.check_written(("number", m, 0), b"i" + digits + b"e")
        self.check_written(("number", -m, 800), b"i-" + digits + b"0" * 800 + b"e")
        self.check_written(("number", 10 ** 5999 + 1, 800), b"i1" + b"0" * 5998 + b"1" + b"0" * 800 + b"e")

    def test_bytes(self):
        self.check_written(bytes_of(b""), b"0:")
        self.check_written(bytes_of(b"spam"), b"4:spam")
        self.check_written(bytes_of(range(256)), b"256:" + bytes(range(256)))
        self.check_written(bytes_of(b"0123456789"), b"10:0123456789")
        self.check_written(bytes_of(b"x" * 100000), b"100000:" + b"x" * 100000)

    def test_lists(self):
        self.check_written(("list", ()), b"le")
        self.check_written(("list", (bytes_of(b"a"), ("number", 0, 0), ("list", (ONE,)))), b"l1:ai0eli1eee")

    def test_maps(self):
        self.check_written(("map", ()), b"de")
        self.check_written(("map", (((), ONE),)), b"d0:i1ee")
        self.check_written(("map", ((key("a"), ("map", ())), (key("b"), bytes_of(b"")))), b"d1:ade1:b0:e")
        self.check_written(("map", ((key("\u20ac\U0001f600"), ONE),)), b"d7:\xe2\x82\xac\xf0\x9f\x98\x80i1ee")

    def test_order_of_entries(self):
        names = ["", "a", "a\x00", "aa", "b", "\x7f", "\x80", "\u07ff", "\u0800", "\ud7ff", "\ue000", "\uffff",
                 "\U00010000", "\U0010ffff"]
        value = ("map", tuple((key(name), ONE) for name in sorted(names)))
        written = [b"%d:" % len(octets) + octets for octets in sorted(name.encode() for name in names)]
        self.check_written(value, b"d" + b"".join(name + b"i1e" for name in written) + b"e")

    def test_long_keys_do_not_stand_behind_short_ones(self):
        value = ("map", ((key("a" * 100), ONE), (key("b"), ONE)))
        self.check_written(value, b"d100:" + b"a" * 100 + b"i1e1:bi1ee")


class LacksTest(BencodeWriteTest):
    def test_kinds_that_bencode_lacks(self):
        for value in (samples.NULL, samples.TRUE, samples.FALSE, ("text", ()), ("text", (97,))):
            self.check_lacking(value)

    def test_the_first_one_in_preorder_counts(self):
        text = ("text", (97,))
        self.check_lacks(("list", (ONE, text, samples.NULL)), 2)
        self.check_lacks(("list", (("list", (ONE, ("number", 1, -1))), samples.NULL)), 3)
        self.check_lacks(("map", ((key("a"), ONE), (key("b"), samples.NULL), (key("c"), text))), 2)
        self.check_lacks(("list", (ONE,) * 1000 + (text, samples.TRUE)), 1001)

    def test_keys_are_no_parts(self):
        self.check_lacks(("map", ((key("a"), ONE), (key("b"), ("list", (ONE,))), (key("c"), samples.NULL))), 4)

    def test_nothing_is_lacking(self):
        for value in (ONE, bytes_of(b""), ("list", ()), ("map", ()), ("number", 1, 800), samples.nested(24)):
            self.assertIsNone(bencode_lacks(value))
        for value in samples.random_values(61, 300, "bencode"):
            self.assertIsNone(bencode_lacks(value))


class WholeTest(BencodeWriteTest):
    def test_random_values(self):
        self.check_random_values("bencode", 62, 500)

    def test_random_values_of_all_kinds(self):
        for value in samples.random_values(63, 500):
            index = first_lacking(value)
            if index is None:
                self.assertIsNone(bencode_lacks(value))
            else:
                self.check_lacks(value, index)

    def test_long_lists_and_maps(self):
        self.check_written(("list", (ONE,) * 20000), b"l" + b"i1e" * 20000 + b"e")
        entries = tuple((key("%05d" % at), ONE) for at in range(20000))
        self.check_written(("map", entries), b"d" + b"".join(b"5:%05di1e" % at for at in range(20000)) + b"e")

    def test_depth(self):
        self.check_depths("bencode")
        self.check_written(samples.nested(24), expected_nest(24))

    def test_the_returned_list(self):
        for value in (ONE, bytes_of(b"abc"), ("list", (ONE,)), ("map", ((key("a"), bytes_of(b"b")),)), ("list", ())):
            self.check_returned_list(value)


def expected_nest(levels):
    """Lists and maps by turns, the innermost one an empty list."""
    octets = b""
    for level in range(levels):
        octets = (b"l" if level % 2 == 0 else b"d1:%c" % level) + octets + b"e"
    return octets


def first_lacking(value):
    """The index in preorder of the first value that bencode lacks, or None."""
    left, index = [value], 0
    while left:
        found = left.pop()
        if found[0] in ("null", "truth", "text") or (found[0] == "number" and not 0 <= found[2] <= 800):
            return index
        if found[0] == "list":
            left.extend(reversed(found[1]))
        if found[0] == "map":
            left.extend(part for _, part in reversed(found[1]))
        index += 1
    return None


if __name__ == "__main__":
    unittest.main()
