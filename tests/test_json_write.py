import unittest

from formsalike.jsontext.read import read_json
from formsalike.jsontext.write import json_lacks, write_json
from tests import jsonoracle, samples, writing

ONE = ("number", 1, 0)
BYTES = ("bytes", (1,))


def text(string):
    return ("text", key(string))


def key(string):
    return tuple(map(ord, string))


def entry_key(points):
    """The octets that write a key, as the text of the same points is written."""
    return bytes(write_json(("text", points)))


class JsonWriteTest(writing.WriteTest):
    oracle = jsonoracle

    def write(self, value):
        return write_json(value)

    def lacks(self, value):
        return json_lacks(value)

    def check_string(self, points, octets):
        """A string as a text, and as a key."""
        self.check_written(("text", points), octets)
        self.check_written(("map", ((points, ("list", (("text", points),))),)), b"{" + octets + b":[" + octets + b"]}")

    def check_number(self, m, e, octets):
        self.check_written(("number", m, e), octets)
        self.check_written(("list", (("number", m, e),)), b"[" + octets + b"]")
        if m > 0:
            self.check_written(("number", -m, e), b"-" + octets)


class KindsTest(JsonWriteTest):
    def test_words(self):
        self.check_written(samples.NULL, b"null")
        self.check_written(samples.TRUE, b"true")
        self.check_written(samples.FALSE, b"false")

    def test_lists(self):
        self.check_written(("list", ()), b"[]")
        self.check_written(("list", (ONE,)), b"[1]")
        self.check_written(("list", (samples.NULL, samples.TRUE, samples.FALSE, ONE, text("a"), ("list", ()),
                                     ("map", ()))), b'[null,true,false,1,"a",[],{}]')
        self.check_written(("list", (("list", (("list", ()), ONE)), ("list", (ONE,)))), b"[[[],1],[1]]")

    def test_maps(self):
        self.check_written(("map", ()), b"{}")
        self.check_written(("map", (((), ONE),)), b'{"":1}')
        self.check_written(("map", ((key("a"), samples.NULL), (key("b"), samples.TRUE), (key("c"), samples.FALSE),
                                    (key("d"), text("x")), (key("e"), ("list", (ONE, ONE))), (key("f"), ("map", ())))),
                           b'{"a":null,"b":true,"c":false,"d":"x","e":[1,1],"f":{}}')
        self.check_written(("map", ((key("a"), ("map", ((key("a"), ONE),))),)), b'{"a":{"a":1}}')


class NumbersTest(JsonWriteTest):
    def test_whole(self):
        self.check_number(0, 0, b"0")
        self.check_number(7, 0, b"7")
        self.check_number(15, 1, b"150")
        self.check_number(123, 5, b"12300000")

    def test_up_to_21_digits(self):
        self.check_number(1, 20, b"1" + b"0" * 20)
        self.check_number(12, 19, b"12" + b"0" * 19)
        self.check_number(10 ** 20 + 1, 0, b"1" + b"0" * 19 + b"1")
        self.check_number(123456789012345678901, 0, b"123456789012345678901")

    def test_from_22_digits(self):
        self.check_number(1, 21, b"1e+21")
        self.check_number(12, 20, b"1.2e+21")
        self.check_number(1234567890123456789012, 0, b"1.234567890123456789012e+21")
        self.check_number(7, 22, b"7e+22")

    def test_with_a_point_among_the_digits(self):
        self.check_number(15, -1, b"1.5")
        self.check_number(1234, -3, b"1.234")
        self.check_number(1234, -1, b"123.4")
        self.check_number(10 ** 21 + 1, -1, b"1" + b"0" * 20 + b".1")
        self.check_number(10 ** 21 + 1, -20, b"10." + b"0" * 19 + b"1")
        self.check_number(10 ** 22 + 1, -1, b"1.0000000000000000000001e+21")

    def test_below_one(self):
        self.check_number(1, -1, b"0.1")
        self.check_number(12, -2, b"0.12")
        self.check_number(12, -3, b"0.012")
        self.check_number(1, -6, b"0.000001")
        self.check_number(12, -7, b"0.0000012")
        self.check_number(1, -7, b"1e-7")
        self.check_number(12, -8, b"1.2e-7")
        self.check_number(123, -9, b"1.23e-7")
        self.check_number(3, -8, b"3e-8")

    def test_each_edge_of_n(self):
        for k in (1, 2, 3, 20, 21, 22, 23, 30):
            m = int("1" * k)
            for n in (-7, -6, -5, -4, -1, 0, 1, 2, k - 1, k, k + 1, 20, 21, 22, 23):
                for sign in (1, -1):
                    self.check_canonical("json", ("number", sign * m, n - k))

    def test_many_digits(self):
        m = 10 ** 1999 + 7
        digits = b"1" + b"0" * 1998 + b"7"
        self.check_number(m, 0, digits[:1] + b"." + digits[1:] + b"e+1999")
        self.check_number(m, -1999, digits[:1] + b"." + digits[1:])
        self.check_number(m, -1979, digits[:21] + b"." + digits[21:])
        self.check_number(m, -2000, b"0." + digits)
        self.check_number(m, -2005, b"0.00000" + digits)
        self.check_number(m, -2006, digits[:1] + b"." + digits[1:] + b"e-7")

    def test_far_exponents(self):
        far = 10 ** 1000 - 1
        self.check_number(1, far, b"1e+" + b"9" * 1000)
        self.check_number(1, -far, b"1e-" + b"9" * 1000)
        self.check_number(123, far, b"1.23e+1" + b"0" * 999 + b"1")
        self.check_number(10 ** 1999 + 1, -far, b"1." + b"0" * 1998 + b"1e-" + b"9" * 996 + b"8000")

    def test_values_of_numbers_within_others(self):
        value = ("list", (("number", -15, 30), ("map", (((), ("number", 25, -2)),)), ("number", 0, 0)))
        self.check_written(value, b'[-1.5e+31,{"":0.25},0]')


class StringsTest(JsonWriteTest):
    def test_plain(self):
        self.check_string((), b'""')
        self.check_string(key("abc XYZ 019 ~'"), b"\"abc XYZ 019 ~'\"")

    def test_escapes_of_one_letter(self):
        for point, octets in ((34, b'\\"'), (92, b"\\\\"), (8, b"\\b"), (9, b"\\t"), (10, b"\\n"), (12, b"\\f"),
                              (13, b"\\r")):
            self.check_string((point,), b'"' + octets + b'"')
            self.check_string((97, point, point, 98), b'"a' + octets * 2 + b'b"')

    def test_each_other_point_below_32(self):
        for point in sorted(set(range(32)) - {8, 9, 10, 12, 13}):
            self.check_string((point,), b'"\\u00%02x"' % point)
        self.check_string((0x1F, 0x0B, 0x0E), b'"\\u001f\\u000b\\u000e"')

    def test_each_other_point_of_one_octet(self):
        for point in sorted(set(range(32, 128)) - {34, 92}):
            self.check_string((point,), b'"' + bytes([point]) + b'"')

    def test_slash_and_delete_stay(self):
        self.check_string((47,), b'"/"')
        self.check_string((127,), b'"\x7f"')

    def test_points_of_several_octets(self):
        for point in (0x80, 0x85, 0xA0, 0x7FF, 0x800, 0x2028, 0x2029, 0xD7FF, 0xE000, 0xFEFF, 0xFFFD, 0xFFFF, 0x10000,
                      0x1F600, 0x10FFFF):
            self.check_string((point,), b'"' + chr(point).encode() + b'"')
            self.check_string((97, point, 10), b'"a' + chr(point).encode() + b'\\n"')

    def test_long(self):
        self.check_string((97,) * 20000, b'"' + b"a" * 20000 + b'"')
        self.check_string((0x20AC, 1) * 1000, b'"' + b"\xe2\x82\xac\\u0001" * 1000 + b'"')


class OrderTest(JsonWriteTest):
    def check_order(self, *names):
        """The keys are written in this order."""
        value = ("map", tuple((key(name), ("text", key(name))) for name in sorted(names)))
        written = b",".join(entry_key(key(name)) + b":" + entry_key(key(name)) for name in names)
        self.check_written(value, b"{" + written + b"}")
        self.check_written(("list", (value, value)), b"[{" + written + b"},{" + written + b"}]")

    def test_by_units(self):
        self.check_order("\U00010000", "\ue000")
        self.check_order("\U0010ffff", "\uffff")
        self.check_order("\ud7ff", "\U00010000", "\U0010ffff", "\ue000", "\uff21")
        self.check_order("a", "a\ud7ff", "a\U0001f600", "a\uff21", "b")
        self.check_order("\U0001f600", "\U0001f600\U00010000", "\U0001f600\uffff", "\U0001f601", "\uffff\U0001f600")

    def test_ordinary_keys(self):
        self.check_order("", "A", "B", "a", "aa", "ab", "b")
        self.check_order("\x00", "\n", "\x1f", " ", '"', "/", "\\", "\x7f", "\x80")
        self.check_order("a", "aaaa", "ab", "b")

    def test_entries_keep_their_values(self):
        value = ("map", ((key("\ue000"), ("list", (ONE,))), (key("\U00010000"), ("map", ((key("x"), text("y")),)))))
        self.check_written(value, '{"\U00010000":{"x":"y"},"\ue000":[1]}'.encode())


class LacksTest(JsonWriteTest):
    def test_bytes_alone(self):
        for value in (("bytes", ()), BYTES, ("bytes", (97,) * 100)):
            self.check_lacks(value, 0)

    def test_within_lists(self):
        self.check_lacks(("list", (BYTES,)), 1)
        self.check_lacks(("list", (ONE, samples.NULL, text("a"), BYTES, BYTES)), 4)
        self.check_lacks(("list", (("list", (ONE, ONE)), BYTES)), 4)
        self.check_lacks(("list", (("list", ()), ("map", ()), BYTES)), 3)
        self.check_lacks(("list", (("list", (("list", (BYTES,)),)), BYTES)), 3)

    def test_within_maps(self):
        self.check_lacks(("map", (((), BYTES),)), 1)
        self.check_lacks(("map", ((key("a"), ONE), (key("b"), ONE), (key("c"), BYTES))), 3)
        inner = ("map", ((key("a"), ONE), (key("b"), samples.NULL)))
        self.check_lacks(("map", ((key("a"), inner), (key("b"), ("list", (ONE, BYTES))))), 6)
        self.check_lacks(("list", (inner, inner, BYTES)), 7)

    def test_preorder_is_not_the_order_of_writing(self):
        value = ("map", ((key("\ue000"), ("list", (ONE, BYTES))), (key("\U00010000"), BYTES)))
        self.check_lacks(value, 3)

    def test_deep_and_long(self):
        self.check_lacks(samples.nested(24, BYTES), 24)
        self.check_lacks(("list", (ONE,) * 5000 + (BYTES,)), 5001)

    def test_nothing_is_lacking(self):
        for value in samples.LEAVES[:6] + samples.LEAVES[8:] + samples.SMALL_TREES + [samples.nested(24)]:
            self.assertIsNone(json_lacks(value))
        self.assertIsNone(json_lacks(("number", 10 ** 1999 + 1, 10 ** 999)))


class WholeTest(JsonWriteTest):
    def test_random_values(self):
        self.check_random_values("json", 101, 600)
        self.check_random_canonical("json", 102, 600)

    def test_read_again(self):
        self.check_read_again(read_json, 103, 800, "json", b'"\\{}[]:,0019-+.eEuddDcCnt \n\x00\x80\xbf\xe0\xed\xf0')

    def test_other_texts_of_the_same_value(self):
        for octets, written in ((b' { "b" : 1.50 , "a" : [ ] } ', b'{"a":[],"b":1.5}'), (b"-0.0e5", b"0"),
                                (b'"\\u0041\\/\\u002f\\ud83d\\ude00\\u001F"', '"A//\U0001f600\\u001f"'.encode()),
                                (b"[1E2,1e+2,100.00,0.1e3]", b"[100,100,100,100]"),
                                ('{"\uffff":1,"\U00010000":2}'.encode(), '{"\U00010000":2,"\uffff":1}'.encode())):
            self.assertEqual(bytes(write_json(read_json(octets))), written)
            self.assertEqual(bytes(write_json(read_json(written))), written)

    def test_depth(self):
        self.check_depths("json")
        octets = b"".join(b"{" + entry_key((level,)) + b":[" for level in range(23, 0, -2))
        self.check_written(samples.nested(24), octets + b"]}" * 12)

    def test_deeper_values(self):
        """Nothing is promised beyond depth 24 but that the limit of values raises no error."""
        self.assertEqual(bytes(write_json(samples.nested(30, ONE, False))), b"[" * 30 + b"1" + b"]" * 30)

    def test_the_returned_list(self):
        for value in samples.LEAVES[:6] + samples.LEAVES[8:] + samples.SMALL_TREES:
            self.check_returned_list(value)


if __name__ == "__main__":
    unittest.main()
