import unittest

from formsalike.jsontext.read import read_json
from formsalike.jsontext.scan import JsonScanner
from tests import jsonoracle, reading

SPACE = b" \t\n\r"
NULL = ("null",)


class JsonReadTest(reading.ReadTest):
    reader = staticmethod(read_json)
    scanner_class = JsonScanner
    oracle = jsonoracle
    form = "json"

    def check_text(self, octets, *points):
        """The characters of a string, as a text and as a key."""
        self.check_value(b'"' + octets + b'"', "text", points)
        self.check_value(b'{"' + octets + b'":null}', "map", ((points, NULL),))

    def check_in_string_fails(self, octets, index):
        """The octet at the index fails in a text and in a key."""
        self.check_fails(b'"' + octets + b'"', index + 1)
        self.check_fails(b'{"' + octets + b'":null}', index + 2)


class KindsTest(JsonReadTest):
    def test_words(self):
        self.check_value(b"null", "null")
        self.check_value(b"true", "truth", True)
        self.check_value(b"false", "truth", False)

    def test_lists_and_maps(self):
        self.check_value(b"[]", "list", ())
        self.check_value(b"{}", "map", ())
        self.check_value(b'[1,[null],{"a":"b"}]', "list", (
            ("number", 1, 0), ("list", (NULL,)), ("map", (((97,), ("text", (98,))),))))
        self.check_value(b'{"b":1,"":2,"a":{"b":3}}', "map", (
            ((), ("number", 2, 0)), ((97,), ("map", (((98,), ("number", 3, 0)),))), ((98,), ("number", 1, 0))))

    def test_keys_in_ascending_order_of_code_points(self):
        self.check_value('{"\U0001f600":1,"\uff21":2,"aa":3,"b":4}'.encode(), "map", (
            ((97, 97), ("number", 3, 0)), ((98,), ("number", 4, 0)), ((0xFF21,), ("number", 2, 0)),
            ((0x1F600,), ("number", 1, 0))))

    def test_whitespace_in_each_place(self):
        marks = [b"{", b'"a"', b":", b"[", b"1", b",", b"null", b"]", b",", b'"b"', b":", b"{", b"}", b"}"]
        value = ("map", (((97,), ("list", (("number", 1, 0), NULL))), ((98,), ("map", ()))))
        self.check_value(b"".join(marks), *value)
        self.check_value(SPACE + SPACE.join(marks) + SPACE, *value)
        for at in range(len(marks) + 1):
            for one in SPACE:
                self.check_value(b"".join(marks[:at]) + bytes([one]) * 2 + b"".join(marks[at:]), *value)
            for one in (0, 8, 11, 12, 160):
                before = b"".join(marks[:at])
                self.check_fails(before + bytes([one]) + b"".join(marks[at:]), len(before))

    def test_rows(self):
        for octets in (b' {"a":[1,true]} ', b"", b"[1", b"[1,]", b'"\\ud83d\\ude00"', b"12"):
            self.check_rows(octets)


class NumbersTest(JsonReadTest):
    def test_ordinary(self):
        for octets, m, e in ((b"0", 0, 0), (b"-0", 0, 0), (b"7", 7, 0), (b"-7", -7, 0), (b"120", 12, 1),
                             (b"0.5", 5, -1),
                             (b"-12.340", -1234, -2), (b"100.00", 1, 2), (b"0.0", 0, 0), (b"-0.000", 0, 0),
                             (b"1e2", 1, 2),
                             (b"1E2", 1, 2), (b"1e+2", 1, 2), (b"1e-2", 1, -2), (b"1E-002", 1, -2), (b"10e-1", 1, 0),
                             (b"0.01e2", 1, 0), (b"0e5", 0, 0), (b"-0.0E-7", 0, 0), (b"1.5e300", 15, 299)):
            for before, behind in ((b"", b""), (b"", b" "), (b"\n", b"\n")):
                self.check_value(before + octets + behind, "number", m, e)
            self.check_value(b"[" + octets + b"," + octets + b"]", "list", (("number", m, e), ("number", m, e)))
            self.check_value(b'{"":' + octets + b"}", "map", (((), ("number", m, e)),))

    def test_many_digits(self):
        nines = b"9" * 3000
        self.check_value(nines, "number", 10 ** 3000 - 1, 0)
        self.check_value(b"-0." + nines, "number", 1 - 10 ** 3000, -3000)
        self.check_value(b"1" + b"0" * 2999, "number", 1, 2999)
        self.check_value(b"0." + b"0" * 2998 + b"1", "number", 1, -2999)

    def test_exponents_of_many_digits(self):
        far = 10 ** 1000 - 1
        self.check_value(b"1e" + b"9" * 1000, "number", 1, far)
        self.check_value(b"1e-" + b"9" * 1000, "number", 1, -far)
        self.check_value(b"1e" + b"0" * 999 + b"5", "number", 1, 5)
        self.check_value(b"0e" + b"9" * 1000, "number", 0, 0)
        self.check_value(b"9" * 3000 + b"E+" + b"9" * 1000, "number", 10 ** 3000 - 1, far)

    def test_octets_that_fail(self):
        for octets, place in ((b"--1", 1), (b"-a", 1), (b"-.5", 1), (b"+1", 0), (b".5", 0), (b"00", 1), (b"01", 1),
                              (b"-01", 2), (b"1.e5", 2), (b"1..5", 2), (b"1.5.5", 3), (b"1e.5", 2), (b"1e5.5", 3),
                              (b"1ee5", 2), (b"1e+-5", 3), (b"1-", 1), (b"0x1", 1), (b"1a", 1), (b"1 2", 2),
                              (b"[-]", 2),
                              (b"[1.]", 3), (b"[1e]", 3), (b"[1e-]", 4), (b"[01]", 2), (b"- 1", 1), (b"1,", 1)):
            self.check_fails(octets, place)

    def test_ends_too_early(self):
        for octets in (b"-", b"1.", b"-0.", b"1e", b"1E+", b"1e-", b"[1", b"[-", b'{"":1'):
            self.check_ends_too_early(octets)


class StringsTest(JsonReadTest):
    def test_plain(self):
        self.check_text(b"")
        self.check_text(b"aZ ~'/\x7f", 97, 90, 32, 126, 39, 47, 127)
        for point in (0x80, 0x7FF, 0x800, 0xD7FF, 0xE000, 0xFFFF, 0x10000, 0x10FFFF):
            self.check_text(chr(point).encode(), point)

    def test_escapes(self):
        for letter, point in ((b'"', 34), (b"\\", 92), (b"/", 47), (b"b", 8), (b"f", 12), (b"n", 10), (b"r", 13),
                              (b"t", 9)):
            self.check_text(b"\\" + letter, point)
            self.check_text(b"x\\" + letter + b"y", 120, point, 121)
        for unit in (0, 31, 34, 92, 0x41, 0xFF, 0x7FF, 0x800, 0xD7FF, 0xE000, 0xFFFF):
            self.check_text(b"\\u%04x" % unit, unit)
            self.check_text(b"\\u%04X" % unit, unit)

    def test_pairs_of_code_units(self):
        for first in (0xD800, 0xD83D, 0xDBFF):
            for second in (0xDC00, 0xDE00, 0xDFFF):
                point = 0x10000 + (first - 0xD800) * 1024 + second - 0xDC00
                self.check_text(b"\\u%04x\\u%04X" % (first, second), point)
                self.check_text(b"a\\u%04X\\u%04x\\u0041" % (first, second), 97, point, 65)

    def test_a_single_first_code_unit(self):
        for unit in (b"\\ud800", b"\\uDBFF"):
            for behind, index in ((b"", 6), (b"a", 6), (b"\\n", 7), (b"\\\\", 7), (b"\\u0041", 8), (b"\\ue000", 8),
                                  (b"\\ud800", 9), (b"\\udbff", 9), (b"\xe2\x82\xac", 6)):
                self.check_in_string_fails(unit + behind, index)
                self.check_in_string_fails(b"\\ud83d\\ude00" + unit + behind, index + 12)

    def test_a_single_second_code_unit(self):
        for unit in (b"\\udc00", b"\\uDFFF", b"\\uDd00", b"\\ude00"):
            for before in (b"", b"a", b"\\n", b"\\u0041", b"\\ud83d\\ude00"):
                self.check_in_string_fails(before + unit, len(before) + 3)

    def test_octets_that_fail(self):
        for octets, index in ((b"\\a", 1), (b"\\U0041", 1), (b"\\u004g", 5), (b"\\u00", 4), (b"\\x41", 1), (b"\\'", 1),
                              (b"a\x00", 1), (b"a\x1fb", 1), (b"\n", 0), (b"\x80", 0), (b"\xc0\x80", 0), (b"\xc3a", 1),
                              (b"\xe0\x80\x80", 1), (b"\xed\xa0\x80", 1), (b"\xf4\x90\x80\x80", 1), (b"\xff", 0),
                              (b"\xe2\x82", 2), (b"\xf0\x9f\x98", 3)):
            self.check_in_string_fails(octets, index)

    def test_keys_again(self):
        for octets, place in ((b'{"a":1,"a":2}', 9), (b'{"":1,"":2}', 7), (b'{"a":1,"\\u0061":2}', 14),
                              (b'{"\\u0061":1,"a":2}', 14), (b'{"\\n":1,"\\u000a":2}', 15), (b'{"/":1,"\\/":2}', 10),
                              (b'{"\xf0\x9f\x98\x80":1,"\\ud83D\\uDe00":2}', 23), (b'{"a":{"a":1},"a":3}', 15),
                              (b'{ "a" : 1 , "b" : 2 , "a" : 3 }', 24)):
            self.check_fails(octets, place)
        self.check_value(b'{"a":{"a":{"a":null}}}', "map", (((97,), ("map", (((97,), ("map", (((97,), NULL),))),))),))


class PlacesTest(JsonReadTest):
    def test_octets_that_fail(self):
        for octets, place in ((b"]", 0), (b"}", 0), (b",", 0), (b":", 0), (b"[}", 1), (b"{]", 1), (b"[,", 1),
                              (b"[1,]", 3),
                              (b"[1 2]", 3), (b"[1:2]", 2), (b'{"a"}', 4), (b'{"a",', 4), (b'{"a":}', 5),
                              (b'{"a":1,}', 7),
                              (b'{"a":1 "b"', 7), (b"{1:2}", 1), (b"{null", 1), (b'{"a"::', 5), (b'{"a":1]', 6),
                              (b"nulL", 3),
                              (b"Null", 0), (b"truE", 3), (b"fals,", 4), (b"'a'", 0), (b"NaN", 0),
                              (b"\xef\xbb\xbf1", 0)):
            self.check_fails(octets, place)

    def test_octets_behind_the_value(self):
        for octets, place in ((b"null null", 5), (b"[] []", 3), (b"{}}", 2), (b"[]]", 2), (b'"a""b"', 3), (b"1 ,", 2),
                              (b"null\0", 4), (b"true,", 4), (b"0 0", 2), (b"[1]x", 3)):
            self.check_fails(octets, place)

    def test_beginnings(self):
        self.check_nothing()
        for octets in (b' { "a\\n\\u0041\\ud83d\\ude00\xe2\x82\xac" : [ -12.5e+3 , true ] , "b" : { } } ', b"-0.5E-10",
                       b"null", b"[[false],[]]", b'"\xf0\x9f\x98\x80"', b"  0  "):
            self.check_beginnings(octets)
        for octets in (b" ", SPACE, b"[", b"[1,", b"{", b'{"a"', b'{"a":', b'{"a":1,', b'"', b'"\\', b"nul"):
            self.check_ends_too_early(octets)

    def test_depth(self):
        self.check_depth(b"[", b"]", [(b"[", 0), (b"{", 0)])
        value = ("number", 1, 0)
        for _ in range(12):
            value = ("list", (("map", (((), value),)),))
        self.check_value(b'[{"":' * 12 + b"1" + b"}]" * 12, *value)
        self.check_fails(b'[{"":' * 12 + b"[", 60)


class AgainstTheScannerTest(JsonReadTest):
    def test_ordinary_texts(self):
        self.check_random_texts(81, 1500)

    def test_spoiled_texts(self):
        self.check_spoiled_texts(82, 4000, b'"\\{}[]:,0019-+.eEuddDcCnt \n\x00\x80\xbf\xe0\xed\xf0\xf4')

    def test_each_fault(self):
        for octets in (b'{"a":[1,-2.5e3],"b":null}', b' [ "\\ud83d\\ude00\xe2\x82\xac\\n" , true ] ', b'{"":{"":0}}'):
            self.check_each_fault(octets, b'"\\{}[]:,09-.eud \x80\xff')


if __name__ == "__main__":
    unittest.main()
