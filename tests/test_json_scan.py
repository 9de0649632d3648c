import random
import unittest

from formsalike.jsontext.read import read_json
from formsalike.jsontext.scan import JsonScanner
from tests import jsonoracle, samples, scanning
from tests.scanning import CLOSE

NULL = ("leaf", ("null",))


class JsonScanTest(scanning.ScanTest):
    scanner_class = JsonScanner
    reader = staticmethod(read_json)
    oracle = jsonoracle

    def check_number(self, octets, m, e):
        self.check_value(octets, ("number", m, e))
        self.check_value(b"[" + octets + b"]", ("list", (("number", m, e),)))

    def check_text(self, octets, *points):
        self.check_value(b'"' + octets + b'"', ("text", points))
        self.check_value(b'{"' + octets + b'":null}', ("map", ((points, ("null",)),)))


class EventPlacesTest(JsonScanTest):
    def test_words(self):
        self.check_events(b"null", {3: [NULL]})
        self.check_events(b" true", {4: [("leaf", ("truth", True))]})
        self.check_events(b"false ", {4: [("leaf", ("truth", False))]})

    def test_texts(self):
        self.check_events(b'""', {1: [("leaf", ("text", ()))]})
        self.check_events(b'"a" ', {2: [("leaf", ("text", (97,)))]})

    def test_brackets(self):
        self.check_events(b"[]", {0: [("open", "list")], 1: [CLOSE]})
        self.check_events(b"{}", {0: [("open", "map")], 1: [CLOSE]})
        self.check_events(b"[[{}]]", {0: [("open", "list")], 1: [("open", "list")], 2: [("open", "map")],
                                      3: [CLOSE], 4: [CLOSE], 5: [CLOSE]})

    def test_number_with_the_end(self):
        self.check_events(b"12", {2: [("leaf", ("number", 12, 0))]})
        self.check_events(b"-1.5e3", {6: [("leaf", ("number", -15, 2))]})
        self.check_events(b"0", {1: [("leaf", ("number", 0, 0))]})

    def test_number_with_the_octet_behind_it(self):
        for octet in b" \t\n\r":
            self.check_events(b"12" + bytes([octet]) * 2, {2: [("leaf", ("number", 12, 0))]})
        one, two = ("leaf", ("number", 1, 0)), ("leaf", ("number", 2, 0))
        self.check_events(b"[1,2]", {0: [("open", "list")], 2: [one], 4: [two, CLOSE]})
        self.check_events(b'{"a":1}', {0: [("open", "map")], 3: [("key", (97,))], 6: [one, CLOSE]})
        self.check_events(b'{"a":1,"b":[2]}', {
            0: [("open", "map")], 3: [("key", (97,))], 6: [one], 9: [("key", (98,))], 11: [("open", "list")],
            13: [two, CLOSE], 14: [CLOSE]})

    def test_keys_in_the_order_of_the_text(self):
        self.check_events(b'{"b":null,"a":null}', {
            0: [("open", "map")], 3: [("key", (98,))], 8: [NULL], 12: [("key", (97,))], 17: [NULL], 18: [CLOSE]})

    def test_whitespace_in_each_place(self):
        space = b" \t\n\r\r\n"
        marks = [b"{", b'"a"', b":", b"[", b"1", b",", b"null", b"]", b",", b'"b"', b":", b"{", b"}", b"}"]
        tight = [event for events in self.scan(b"".join(marks))[0] for event in events]
        wide = self.scan(space + space.join(marks) + space)
        self.assertIsNone(wide[1])
        self.assertEqual([event for events in wide[0] for event in events], tight)
        for at in range(len(marks) + 1):
            for one in b" \t\n\r":
                octets = b"".join(marks[:at]) + bytes([one]) + b"".join(marks[at:])
                found, place = self.scan(octets)
                self.assertIsNone(place, octets)
                self.assertEqual([event for events in found for event in events], tight)

    def test_no_other_whitespace(self):
        for octet in (0, 8, 11, 12, 28, 31, 133, 160):
            for before, behind in ((b"", b"1"), (b"[", b"]"), (b"[1", b"]"), (b'{"a"', b":1}"), (b"1", b"")):
                self.check_fails(before + bytes([octet]) + behind, len(before))

    def test_no_byte_order_mark(self):
        self.check_fails(b"\xef\xbb\xbfnull", 0)


class NumbersTest(JsonScanTest):
    def test_whole(self):
        self.check_number(b"0", 0, 0)
        self.check_number(b"7", 7, 0)
        self.check_number(b"-7", -7, 0)
        self.check_number(b"1234567890", 123456789, 1)
        self.check_number(b"-100", -1, 2)

    def test_zero(self):
        for octets in (b"-0", b"0.0", b"-0.000", b"0e5", b"0E-5", b"-0.0e+7", b"0e" + b"9" * 1000):
            self.check_number(octets, 0, 0)

    def test_fractions(self):
        self.check_number(b"0.5", 5, -1)
        self.check_number(b"-12.340", -1234, -2)
        self.check_number(b"100.00", 1, 2)
        self.check_number(b"0.001", 1, -3)
        self.check_number(b"10.01", 1001, -2)

    def test_exponents(self):
        for octets in (b"1e2", b"1E2", b"1e+2", b"1E+2", b"1e002", b"1e+002"):
            self.check_number(octets, 1, 2)
        for octets in (b"1e-2", b"1E-2", b"1e-002", b"10e-3", b"0.1e-1", b"0.01E0", b"1.00e-2"):
            self.check_number(octets, 1, -2)
        self.check_number(b"1.5e1", 15, 0)
        self.check_number(b"12.50e-3", 125, -4)
        self.check_number(b"-1e0", -1, 0)

    def test_many_digits(self):
        nines = b"9" * 3000
        self.check_number(nines, 10 ** 3000 - 1, 0)
        self.check_number(b"-0." + nines, 1 - 10 ** 3000, -3000)
        self.check_number(b"1" + b"0" * 2999, 1, 2999)
        self.check_number(b"0." + b"0" * 2998 + b"1", 1, -2999)
        self.check_number(nines[:1500] + b"." + nines[:1500], 10 ** 3000 - 1, -1500)

    def test_more_digits_than_python_turns_at_once(self):
        self.check_number(b"9" * 6000, 10 ** 6000 - 1, 0)
        self.check_number(b"1e" + b"9" * 6000, 1, 10 ** 6000 - 1)

    def test_exponents_of_many_digits(self):
        far = 10 ** 1000 - 1
        self.check_number(b"1e" + b"9" * 1000, 1, far)
        self.check_number(b"1e-" + b"9" * 1000, 1, -far)
        self.check_number(b"15.0E+" + b"0" * 999 + b"3", 15, 3)
        self.check_number(b"9" * 3000 + b"e-" + b"9" * 1000, 10 ** 3000 - 1, -far)
        self.check_number(b"0." + b"5" * 2999 + b"e" + b"9" * 1000, int("5" * 2999), far - 2999)

    def test_octets_that_fail(self):
        for octets, place in ((b"-", 1), (b"--1", 1), (b"-a", 1), (b"-.5", 1), (b"+1", 0), (b".5", 0), (b"00", 1),
                              (b"01", 1), (b"-01", 2), (b"-00", 2), (b"1.e5", 2), (b"1..5", 2), (b"1.5.5", 3),
                              (b"1e.5", 2), (b"1e5.5", 3), (b"1ee5", 2), (b"1e5e5", 3), (b"1e+-5", 3), (b"1e++5", 3),
                              (b"1-", 1), (b"1+", 1), (b"1.5-", 3), (b"1e5-", 3), (b"0x1", 1), (b"1a", 1),
                              (b"1 2", 2), (b"1_0", 1), (b"1:", 1), (b"1,", 1), (b"1]", 1), (b"1}", 1), (b"[1}", 2),
                              (b"[-]", 2), (b"[1.]", 3), (b"[1e]", 3), (b"[1e-]", 4), (b"[1.,", 3), (b"- 1", 1)):
            if place == len(octets):
                self.check_ends_too_early(octets)
            else:
                self.check_fails(octets, place)

    def test_what_can_stand(self):
        digits, space = b"0123456789", b" \t\n\r"
        self.check_can_stand(b"-", digits)
        self.check_can_stand(b"0", b".eE" + space)
        self.check_can_stand(b"-0", b".eE" + space)
        self.check_can_stand(b"5", b".eE" + digits + space)
        self.check_can_stand(b"0.", digits)
        self.check_can_stand(b"0.0", b"eE" + digits + space)
        self.check_can_stand(b"0e", b"+-" + digits)
        self.check_can_stand(b"0.5E", b"+-" + digits)
        self.check_can_stand(b"0e+", digits)
        self.check_can_stand(b"0e-", digits)
        self.check_can_stand(b"0e0", digits + space)
        self.check_can_stand(b"[0", b".eE,]" + space)
        self.check_can_stand(b'{"":0', b".eE,}" + space)
        self.check_can_stand(b'{"":12', b".eE,}" + digits + space)

    def test_ends_too_early(self):
        for octets in (b"-", b"1.", b"-0.", b"1e", b"1E+", b"1e-", b"0.5e", b"[-", b"[1"):
            self.check_ends_too_early(octets)


class StringsTest(JsonScanTest):
    def test_plain(self):
        self.check_text(b"")
        self.check_text(b"aZ ~'/\x7f", 97, 90, 32, 126, 39, 47, 127)

    def test_utf8(self):
        for point in (0x80, 0x7FF, 0x800, 0xD7FF, 0xE000, 0xFFFF, 0x10000, 0x10FFFF):
            self.check_text(chr(point).encode(), point)
            self.check_text(b"a" + chr(point).encode() + b"\\n", 97, point, 10)

    def test_short_escapes(self):
        for letter, point in ((b'"', 34), (b"\\", 92), (b"/", 47), (b"b", 8), (b"f", 12), (b"n", 10), (b"r", 13),
                              (b"t", 9)):
            self.check_text(b"\\" + letter, point)
            self.check_text(b"x\\" + letter + b"\\" + letter + b"y", 120, point, point, 121)

    def test_code_units(self):
        for unit in (0, 1, 31, 34, 92, 0x41, 0xFF, 0x7FF, 0x800, 0xCFFF, 0xD000, 0xD7FF, 0xE000, 0xEFFF, 0xFFFF):
            self.check_text(b"\\u%04x" % unit, unit)
            self.check_text(b"\\u%04X" % unit, unit)
        self.check_text(b"\\uabCDn\\u00e9", 0xABCD, 110, 0xE9)
        self.check_text(b"\\ud000\\uD799", 0xD000, 0xD799)

    def test_pairs_of_code_units(self):
        self.check_text(b"\\ud800\\udc00", 0x10000)
        self.check_text(b"\\uDBFF\\uDFFF", 0x10FFFF)
        self.check_text(b"\\uD83d\\uDe00", 0x1F600)
        self.check_text(b"\\ud800\\udc00\\udbff\\udfff\\u0041", 0x10000, 0x10FFFF, 0x41)

    def test_all_pairs_at_their_edges(self):
        for first in (0xD800, 0xD801, 0xDAAA, 0xDBFF):
            for second in (0xDC00, 0xDC01, 0xDDDD, 0xDEEE, 0xDFFF):
                point = 0x10000 + (first - 0xD800) * 1024 + (second - 0xDC00)
                self.check_text(b"\\u%04x\\u%04x" % (first, second), point)

    def test_what_can_stand_in_escapes(self):
        hexadecimal = b"0123456789abcdefABCDEF"
        self.check_can_stand(b'"\\', b'"\\/bfnrtu')
        self.check_can_stand(b'"\\u', hexadecimal)
        for digit in hexadecimal:
            begin = b'"\\u' + bytes([digit])
            self.check_can_stand(begin, b"0123456789abAB" if digit in b"dD" else hexadecimal)
        for begin in (b'"\\ud7', b'"\\u00', b'"\\udB', b'"\\ue0', b'"\\uDB0', b'"\\uffF', b'"\\ud8', b'"\\u0d'):
            self.check_can_stand(begin, hexadecimal)

    def test_what_can_stand_behind_a_first_code_unit(self):
        hexadecimal = b"0123456789abcdefABCDEF"
        for unit in (b"d800", b"DBFF", b"dAbC", b"D9f0"):
            begin = b'"\\u' + unit
            self.check_can_stand(begin, b"\\")
            self.check_can_stand(begin + b"\\", b"u")
            self.check_can_stand(begin + b"\\u", b"dD")
            self.check_can_stand(begin + b"\\ud", b"cdefCDEF")
            self.check_can_stand(begin + b"\\uD", b"cdefCDEF")
            self.check_can_stand(begin + b"\\udc", hexadecimal)
            self.check_can_stand(begin + b"\\uDF0", hexadecimal)

    def test_a_pair_is_whole(self):
        self.check_can_stand(b'"\\ud800\\udc00\\ud', b"0123456789abAB")
        self.check_can_stand(b'"\\ud800\\udc00\\', b'"\\/bfnrtu')

    def test_places_of_wrong_escapes(self):
        self.check_fails(b'"\\a"', 2)
        self.check_fails(b'"\\U0041"', 2)
        self.check_fails(b'"\\u004g"', 6)
        self.check_fails(b'"\\udc00"', 4)
        self.check_fails(b'"\\uDF00"', 4)
        self.check_fails(b'"\\ud800"', 7)
        self.check_fails(b'"\\ud800a"', 7)
        self.check_fails(b'"\\ud800\\n"', 8)
        self.check_fails(b'"\\ud800\\u0041"', 9)
        self.check_fails(b'"\\ud800\\ud800"', 10)

    def test_octets_that_cannot_stand(self):
        ascii_ones = set(range(32, 128)) | set(range(0xC2, 0xF5))
        self.check_can_stand(b'"', ascii_ones)
        self.check_can_stand(b'"a', ascii_ones)
        self.check_can_stand(b'{"', ascii_ones)

    def test_octets_within_characters(self):
        later = set(range(0x80, 0xC0))
        self.check_can_stand(b'"\xc2', later)
        self.check_can_stand(b'"\xdf', later)
        self.check_can_stand(b'"\xe0', set(range(0xA0, 0xC0)))
        self.check_can_stand(b'"\xe1', later)
        self.check_can_stand(b'"\xed', set(range(0x80, 0xA0)))
        self.check_can_stand(b'"\xee', later)
        self.check_can_stand(b'"\xe2\x82', later)
        self.check_can_stand(b'"\xf0', set(range(0x90, 0xC0)))
        self.check_can_stand(b'"\xf1', later)
        self.check_can_stand(b'"\xf4', set(range(0x80, 0x90)))
        self.check_can_stand(b'"\xf0\x9f', later)
        self.check_can_stand(b'"\xf0\x9f\x98', later)
        self.check_can_stand(b'{"k\xe2\x82', later)

    def test_ends_too_early(self):
        whole = b'"a\\n\\u0041\\ud83d\\ude00\xe2\x82\xac\xf0\x9f\x98\x80"'
        for many in range(1, len(whole)):
            self.check_ends_too_early(whole[:many])


class PlacesTest(JsonScanTest):
    def test_begin(self):
        values = b'"-0123456789[{ntf'
        space = b" \t\n\r"
        self.check_can_stand(b"", values + space)
        self.check_can_stand(b" ", values + space)
        self.check_can_stand(b"[", values + space + b"]")
        self.check_can_stand(b"[ ", values + space + b"]")
        self.check_can_stand(b"[1,", values + space)
        self.check_can_stand(b"[null, ", values + space)
        self.check_can_stand(b"{", b'"}' + space)
        self.check_can_stand(b"{ ", b'"}' + space)
        self.check_can_stand(b'{"a":1,', b'"' + space)
        self.check_can_stand(b'{"a":[],', b'"' + space)
        self.check_can_stand(b'{"a"', b":" + space)
        self.check_can_stand(b'{"a" ', b":" + space)
        self.check_can_stand(b'{"a":', values + space)
        self.check_can_stand(b'{"a": ', values + space)

    def test_behind_values(self):
        space = b" \t\n\r"
        for whole in (b"null", b"true", b"false", b'""', b"[]", b"{}", b"1 ", b'[{"a":[]}]'):
            self.check_can_stand(whole, space)
            self.check_can_stand(b"[" + whole, b",]" + space)
            self.check_can_stand(b"[1," + whole, b",]" + space)
            self.check_can_stand(b"[" + whole + b" ", b",]" + space)
            self.check_can_stand(b'{"a":' + whole, b",}" + space)
            self.check_can_stand(b'[{"a":' + whole, b",}" + space)
            self.check_can_stand(b'{"a":[' + whole, b",]" + space)

    def test_words(self):
        for word in (b"null", b"true", b"false"):
            for many in range(1, len(word)):
                self.check_can_stand(word[:many], word[many:many + 1])
                self.check_can_stand(b"[" + word[:many], word[many:many + 1])
                self.check_ends_too_early(word[:many])
        for octets, place in ((b"nulL", 3), (b"Null", 0), (b"nul", 3), (b"truE", 3), (b"nullnull", 4), (b"fals,", 4)):
            if place == len(octets):
                self.check_ends_too_early(octets)
            else:
                self.check_fails(octets, place)

    def test_octets_behind_the_value(self):
        for octets, place in ((b"null null", 5), (b"[] []", 3), (b"{}}", 2), (b"[]]", 2), (b'"a""b"', 3), (b"[],", 2),
                              (b"null:", 4), (b"1 ,", 2)):
            self.check_fails(octets, place)

    def test_wrong_brackets_and_marks(self):
        for octets, place in ((b"]", 0), (b"}", 0), (b",", 0), (b":", 0), (b"[}", 1), (b"{]", 1), (b"[,", 1),
                              (b"[1,]", 3), (b"[1 2]", 3), (b"[1,,2]", 3), (b"[1:2]", 2), (b'{"a"}', 4),
                              (b'{"a",', 4), (b'{"a":}', 5), (b'{"a":1,}', 7), (b'{"a":1 "b"', 7), (b"{1:2}", 1),
                              (b"{null", 1), (b"{[", 1), (b'{"a"::', 5), (b'{"a":1:', 6), (b'{"a":1]', 6),
                              (b"{,", 1), (b"'a'", 0), (b"[//", 1), (b"NaN", 0), (b"Infinity", 0)):
            self.check_fails(octets, place)

    def test_ends_too_early(self):
        for octets in (b"", b" ", b"\n\t\r ", b"[", b"[ ", b"[1", b"[1,", b"[1 ", b"[[]", b"{", b"{ ", b'{"a', b'{"a"',
                       b'{"a" ', b'{"a":', b'{"a":1', b'{"a":1,', b'{"a":{}', b'["', b'"'):
            self.check_ends_too_early(octets)

    def test_keys_that_a_map_has(self):
        self.check_fails(b'{"a":1,"a":2}', 9)
        self.check_fails(b'{"":1,"":2}', 7)
        self.check_fails(b'{"a":1,"b":2,"a"', 15)
        self.check_fails(b'{"a":1,"\\u0061":2}', 14)
        self.check_fails(b'{"\\u0061":1,"a":2}', 14)
        self.check_fails(b'{"\\n":1,"\\u000A":2}', 15)
        self.check_fails(b'{"/":1,"\\/":2}', 10)
        self.check_fails(b'{"\xf0\x9f\x98\x80":1,"\\ud83D\\uDe00":2}', 23)
        self.check_fails(b'{"a":{"a":1,"b":2},"a":3}', 21)
        self.check_fails(b'[{"a":{"a":1,"a":2}}]', 15)

    def test_keys_that_another_map_has(self):
        for octets in (b'{"a":{"a":{"a":1}}}', b'[{"a":1},{"a":1}]', b'{"a":1,"A":2,"aa":3,"":4}',
                       b'{"a":[{"b":1},{"b":2}],"b":3}', b'{"a":"a"}'):
            self.assertIsNone(self.scan(octets)[1], octets)

    def test_levels(self):
        for opens, closes in ((b"[", b"]"), (b'{"a":', b"}"), (b'[{"b":', b"}]")):
            levels = 12 if len(closes) == 2 else 24
            self.assertIsNone(self.scan(opens * levels + b"1" + closes * levels)[1])
            for deeper in (b"[", b"{"):
                self.check_fails(opens * levels + deeper, len(opens) * levels)
        self.assertIsNone(self.scan(b"[" * 24 + b"]" * 24)[1])
        self.assertIsNone(self.scan(b"[" * 23 + b"{}" + b",[]" + b"]" * 23)[1])
        self.check_fails(b"[" * 23 + b"{},[[", 23 + 4)

    def test_closed_levels_do_not_count(self):
        octets = b"[" + b",".join([b"[" * 23 + b"]" * 23] * 3) + b"]"
        self.assertIsNone(self.scan(octets)[1])


class AgainstTheOracleTest(JsonScanTest):
    def test_texts_of_values(self):
        self.check_random_texts("json", 16, 1500)

    def test_spoiled_texts(self):
        self.check_spoiled_texts("json", 17, 3000, b'"\\{}[]:,0019-+.eEuddDcCnt \n\x80\xbf\xe0\xed\xf0\xf4')

    def test_octets_at_random(self):
        pools = (b"[]{},:\"a1 ", b'"\\ud8DcCbB0', b"-+.eE01, []", b'{"a":,}\\u0061 ')
        self.check_octets_at_random(19, 3000, [b"", b'"', b"[", b'{"'], pools)


class ObjectsTest(JsonScanTest):
    def test_two_side_by_side(self):
        ones, twos = b'{"a":[12,"\\ud83d\\ude00"],"b":-0.5}', b'[{"a":true,"c":{"a":"\xe2\x82\xac"}},1e5 ]'
        self.check_side_by_side(ones, twos)
        self.check_side_by_side(twos, ones)

    def test_returned_lists(self):
        for octets in (b"[ [ ] ]", b'{"a":["b",1]}', b"12", b'[{"a":true,"c":{"a":"\xe2\x82\xac"}},1e5 ]'):
            self.check_returned_lists(octets)
            self.check_kinds_of_events(octets)

    def test_deep_values(self):
        for levels in range(0, 25):
            value = samples.nested(levels, ("truth", True))
            octets = jsonoracle.random_text(value, random.Random(levels))
            self.assertEqual(self.value_of(octets), value)

    def test_a_long_text(self):
        octets = b"[" + b",".join([b'{"key":[null,-1.5,"text"]}'] * 2000) + b"]"
        inner = ("list", (("null",), ("number", -15, -1), ("text", tuple(b"text"))))
        self.assertEqual(self.value_of(octets), ("list", (("map", ((tuple(b"key"), inner),)),) * 2000))


if __name__ == "__main__":
    unittest.main()
