import base64
import unittest

from formsalike.sexprs.read import read_sexp
from formsalike.sexprs.scan import SexpScanner
from tests import scanning, sexporacle
from tests.scanning import CLOSE, LIST, leaf

DIGITS = b"0123456789"
LETTERS = b"ABCDEFGHIJKLMNOPQRSTUVWXYZabcdefghijklmnopqrstuvwxyz"
TOKEN_BEGINS = LETTERS + b"-./_:*+="
SPACE = b" \t\n\v\f\r"
ATOM_BEGINS = TOKEN_BEGINS + DIGITS + b'"#|'
VALUES = ATOM_BEGINS + b"("
HEX = b"0123456789abcdefABCDEF"
BASE64 = LETTERS + b"0123456789+/"


def atom(octets):
    return leaf("bytes", tuple(octets))


class SexpScanTest(scanning.ScanTest):
    scanner_class = SexpScanner
    reader = staticmethod(read_sexp)
    oracle = sexporacle

    def check_atom(self, octets, wanted):
        """The octets write the atom, alone and in a list."""
        value = ("bytes", tuple(wanted))
        self.check_value(octets, value)
        self.check_value(b" " + octets + b"\n", value)
        self.check_value(b"(" + octets + b")", ("list", (value,)))

    def check_atoms(self, octets, *wanted):
        """The octets write these atoms within a list."""
        self.check_value(b"(" + octets + b")", ("list", tuple(("bytes", tuple(each)) for each in wanted)))


class EventPlacesTest(SexpScanTest):
    def test_lists(self):
        self.check_events(b"()", {0: [LIST], 1: [CLOSE]})
        self.check_events(b" ( () ) ", {1: [LIST], 3: [LIST], 4: [CLOSE], 6: [CLOSE]})
        self.check_events(b"(()())", {0: [LIST], 1: [LIST], 2: [CLOSE], 3: [LIST], 4: [CLOSE], 5: [CLOSE]})

    def test_token_with_the_end(self):
        self.check_events(b"abc", {3: [atom(b"abc")]})
        self.check_events(b" a", {2: [atom(b"a")]})

    def test_token_with_the_octet_behind_it(self):
        for octet in SPACE:
            self.check_events(b"ab" + bytes([octet]) * 2, {2: [atom(b"ab")]})
        self.check_events(b"(ab)", {0: [LIST], 3: [atom(b"ab"), CLOSE]})
        self.check_events(b"(a())", {0: [LIST], 2: [atom(b"a"), LIST], 3: [CLOSE], 4: [CLOSE]})
        self.check_events(b"(a b)", {0: [LIST], 2: [atom(b"a")], 4: [atom(b"b"), CLOSE]})
        self.check_events(b'(a"b")', {0: [LIST], 2: [atom(b"a")], 4: [atom(b"b")], 5: [CLOSE]})
        self.check_events(b"(a#00#)", {0: [LIST], 2: [atom(b"a")], 5: [atom(b"\0")], 6: [CLOSE]})
        self.check_events(b"(a||)", {0: [LIST], 2: [atom(b"a")], 3: [atom(b"")], 4: [CLOSE]})

    def test_counted_atoms_with_the_last_octet(self):
        self.check_events(b"3:a)c", {4: [atom(b"a)c")]})
        self.check_events(b"(1:a2:bc)", {0: [LIST], 3: [atom(b"a")], 7: [atom(b"bc")], 8: [CLOSE]})

    def test_empty_counted_atoms_with_the_colon(self):
        self.check_events(b"0:", {1: [atom(b"")]})
        self.check_events(b"(0:0:)", {0: [LIST], 2: [atom(b"")], 4: [atom(b"")], 5: [CLOSE]})

    def test_other_atoms_with_their_second_mark(self):
        self.check_events(b'""', {1: [atom(b"")]})
        self.check_events(b'"a\\"" ', {4: [atom(b'a"')]})
        self.check_events(b"##", {1: [atom(b"")]})
        self.check_events(b"# 6 1 # ", {6: [atom(b"a")]})
        self.check_events(b"||", {1: [atom(b"")]})
        self.check_events(b"|YQ==|", {5: [atom(b"a")]})
        self.check_events(b'(""##||)', {0: [LIST], 2: [atom(b"")], 4: [atom(b"")], 6: [atom(b"")], 7: [CLOSE]})


class TokensTest(SexpScanTest):
    def test_all_octets_of_tokens(self):
        for octet in TOKEN_BEGINS:
            self.check_atom(bytes([octet]), bytes([octet]))
        everything = TOKEN_BEGINS + DIGITS
        self.check_atom(everything, everything)
        self.check_atom(b"a1:b", b"a1:b")
        self.check_atom(b":3", b":3")
        self.check_atom(b"=YQ==", b"=YQ==")

    def test_what_can_stand(self):
        self.check_can_stand(b"a", TOKEN_BEGINS + DIGITS + SPACE)
        self.check_can_stand(b"a0", TOKEN_BEGINS + DIGITS + SPACE)
        self.check_can_stand(b"(a", TOKEN_BEGINS + DIGITS + SPACE + b'()"#|')

    def test_octets_that_no_token_has(self):
        for octet in b"!$%&',;<>?@[\\]^`{}~\x00\x7f\x80\xff":
            self.check_fails(bytes([octet]) + b"a", 0)
            self.check_fails(b"(a" + bytes([octet]), 2)

    def test_a_long_token(self):
        self.check_atom(b"ab-1" * 20000, b"ab-1" * 20000)


class CountedTest(SexpScanTest):
    def test_ordinary(self):
        self.check_atom(b"0:", b"")
        self.check_atom(b"1:(", b"(")
        self.check_atom(b"5: \n\\\"|", b" \n\\\"|")
        self.check_atom(b"10:0123456789", DIGITS)
        self.check_atom(b"256:" + bytes(range(256)), bytes(range(256)))
        self.check_atom(b"50000:" + b")" * 50000, b")" * 50000)

    def test_what_can_stand(self):
        self.check_can_stand(b"0", b":")
        self.check_can_stand(b"4", DIGITS + b":")
        self.check_can_stand(b"40", DIGITS + b":")
        self.check_can_stand(b"(0", b":")
        self.check_can_stand(b"(7", DIGITS + b":")
        self.check_can_stand(b"1:", range(256))
        self.check_can_stand(b"2:a", range(256))

    def test_octets_that_fail(self):
        for octets, place in ((b"00:", 1), (b"01:a", 1), (b"1a:", 1), (b"1 :a", 1), (b"(1)", 2), (b"1:ab", 3),
                              (b"(-1:a)x", 6), (b"0:a", 2), (b'3"abc"', 1), (b"2#6161#", 1), (b"4|YQ==|", 1)):
            self.check_fails(octets, place)


class QuotedTest(SexpScanTest):
    def test_plain_characters(self):
        plain = bytes(octet for octet in range(32, 127) if octet not in b'"\\')
        self.check_atom(b'"' + plain + b'"', plain)
        self.check_atom(b'""', b"")

    def test_what_can_stand(self):
        self.check_can_stand(b'"', range(32, 127))
        self.check_can_stand(b'"a', range(32, 127))
        self.check_can_stand(b'"\\', b"btvnfr\"'\\?0123x\n")
        self.check_can_stand(b'"\\n', range(32, 127))
        self.check_can_stand(b'"\\\n', range(32, 127))

    def test_short_escapes(self):
        for sign, octet in (("b", 8), ("t", 9), ("v", 11), ("n", 10), ("f", 12), ("r", 13), ('"', 34), ("'", 39),
                            ("\\", 92), ("?", 63)):
            self.check_atom(b'"\\' + sign.encode() + b'"', [octet])
            self.check_atom(b'"x\\' + sign.encode() + b'\\' + sign.encode() + b'y"', [120, octet, octet, 121])

    def test_an_escaped_line_feed_means_nothing(self):
        self.check_atom(b'"\\\n"', b"")
        self.check_atom(b'"a\\\nb\\\n\\\n c"', b"ab c")
        self.check_fails(b'"\\\r\n"', 2)
        self.check_fails(b'"a\nb"', 2)

    def test_octal_escapes(self):
        for octet in range(256):
            self.check_atom(b'"\\%03o"' % octet, [octet])
        self.check_atom(b'"\\0000\\3777"', [0, 48, 255, 55])
        for digit in b"0123":
            self.check_can_stand(b'"\\' + bytes([digit]), b"01234567")
            self.check_can_stand(b'"\\' + bytes([digit]) + b"7", b"01234567")
        self.check_fails(b'"\\400"', 2)
        self.check_fails(b'"\\8"', 2)
        self.check_fails(b'"\\08"', 3)
        self.check_fails(b'"\\008"', 4)
        self.check_fails(b'"\\0"', 3)
        self.check_fails(b'"\\00"', 4)

    def test_hexadecimal_escapes(self):
        for octet in range(256):
            self.check_atom(b'"\\x%02x"' % octet, [octet])
            self.check_atom(b'"\\x%02X"' % octet, [octet])
        self.check_atom(b'"\\xaBc\\xFf0"', [0xAB, 99, 255, 48])
        self.check_can_stand(b'"\\x', HEX)
        self.check_can_stand(b'"\\x0', HEX)
        self.check_can_stand(b'"\\xf', HEX)
        self.check_fails(b'"\\x"', 3)
        self.check_fails(b'"\\x1"', 4)
        self.check_fails(b'"\\X41"', 2)
        self.check_fails(b'"\\xg0"', 3)
        self.check_fails(b'"\\x0g"', 4)

    def test_octets_that_fail(self):
        for octet in [*range(32), *range(127, 256)]:
            self.check_fails(b'"a' + bytes([octet]) + b'"', 2)
            if octet != 10:
                self.check_fails(b'"\\' + bytes([octet]) + b'"', 2)


class HexadecimalTest(SexpScanTest):
    def test_ordinary(self):
        self.check_atom(b"##", b"")
        self.check_atom(b"#616263#", b"abc")
        self.check_atom(b"#00fF7FAbcDeF#", [0, 255, 127, 0xAB, 0xCD, 0xEF])
        self.check_atom(b"#" + bytes(range(256)).hex().encode() + b"#", bytes(range(256)))
        self.check_atom(b"#" + bytes(range(256)).hex().upper().encode() + b"#", bytes(range(256)))

    def test_whitespace_anywhere(self):
        for octet in SPACE:
            one = bytes([octet])
            self.check_atom(b"#" + one + b"#", b"")
            self.check_atom(b"#" + one.join([b"", b"6", b"1", b"6", b"2", b""]) + b"#", b"ab")
        self.check_atom(b"#" + SPACE + b"6" + SPACE + b"1" + SPACE + b"#", b"a")

    def test_what_can_stand(self):
        self.check_can_stand(b"#", HEX + SPACE + b"#")
        self.check_can_stand(b"#6", HEX + SPACE)
        self.check_can_stand(b"#6 ", HEX + SPACE)
        self.check_can_stand(b"#61", HEX + SPACE + b"#")
        self.check_can_stand(b"#61 ", HEX + SPACE + b"#")

    def test_octets_that_fail(self):
        for octets, place in ((b"#6#", 2), (b"#616#", 4), (b"#6 #", 3), (b"#g0#", 1), (b"#0x61#", 2), (b"#6)", 2),
                              (b"#\\x61#", 1), (b'#"', 1), (b"#61##", 4)):
            self.check_fails(octets, place)


class Base64Test(SexpScanTest):
    def test_ordinary(self):
        self.check_atom(b"||", b"")
        self.check_atom(b"|YQ==|", b"a")
        self.check_atom(b"|YWI=|", b"ab")
        self.check_atom(b"|YWJj|", b"abc")
        self.check_atom(b"|+/+/|", [0xFB, 0xFF, 0xBF])
        for many in range(256):
            octets = bytes(range(255, 255 - many, -1))
            self.check_atom(b"|" + base64.b64encode(octets) + b"|", octets)

    def test_whitespace_anywhere(self):
        for octet in SPACE:
            one = bytes([octet])
            self.check_atom(b"|" + one + b"|", b"")
            self.check_atom(b"|" + one.join([b"", b"Y", b"Q", b"=", b"=", b""]) + b"|", b"a")
            self.check_atom(b"|" + one.join([b"", b"Y", b"W", b"I", b"=", b"", b""]) + b"|", b"ab")

    def test_what_can_stand(self):
        self.check_can_stand(b"|", BASE64 + SPACE + b"|")
        self.check_can_stand(b"|Y", BASE64 + SPACE)
        self.check_can_stand(b"|YQ", BASE64 + SPACE + b"=")
        self.check_can_stand(b"|YW", BASE64 + SPACE)
        self.check_can_stand(b"|YWI", BASE64 + SPACE + b"=")
        self.check_can_stand(b"|YWJ", BASE64 + SPACE)
        self.check_can_stand(b"|YWJj", BASE64 + SPACE + b"|")
        self.check_can_stand(b"|YQ=", SPACE + b"=")
        self.check_can_stand(b"|YQ= ", SPACE + b"=")
        self.check_can_stand(b"|YQ==", SPACE + b"|")
        self.check_can_stand(b"|YWI=", SPACE + b"|")
        self.check_can_stand(b"|YWI= ", SPACE + b"|")
        self.check_can_stand(b"|YWJjYQ", BASE64 + SPACE + b"=")

    def test_not_whole(self):
        for octets, place in ((b"|Y|", 2), (b"|YQ|", 3), (b"|YQ=|", 4), (b"|YWI|", 4), (b"|YWJjY|", 6),
                              (b"|YQ = |", 6), (b"|YR==|", 3), (b"|YWJ=|", 4)):
            self.check_fails(octets, place)

    def test_octets_that_fail(self):
        for octets, place in ((b"|=|", 1), (b"|Y=|", 2), (b"|YQ===|", 5), (b"|YWI==|", 5), (b"|YWJj=|", 5),
                              (b"|YQ==Y|", 5), (b"|YQ=Y|", 4), (b"|-_|", 1), (b"|Y.|", 2), (b"|#|", 1), (b"|)", 1)):
            self.check_fails(octets, place)


class PlacesTest(SexpScanTest):
    def test_whitespace(self):
        marks = [b"(", b"a", b"(", b'"b"', b"#63#", b")", b"|ZA==|", b"1:e", b"(", b")", b")"]
        value = ("list", (("bytes", (97,)), ("list", (("bytes", (98,)), ("bytes", (99,)))), ("bytes", (100,)),
                          ("bytes", (101,)), ("list", ())))
        self.check_value(b"".join(marks), value)
        self.check_value(SPACE + SPACE.join(marks) + SPACE, value)
        for at in range(len(marks) + 1):
            for one in SPACE:
                self.check_value(b"".join(marks[:at]) + bytes([one]) + b"".join(marks[at:]), value)

    def test_no_other_whitespace(self):
        for octet in (0, 8, 14, 28, 31, 133, 160):
            for before, behind in ((b"", b"a"), (b"(", b")"), (b"(a", b")"), (b"a", b""), (b"()", b"")):
                self.check_fails(before + bytes([octet]) + behind, len(before))

    def test_where_a_value_is_wanted(self):
        self.check_can_stand(b"", VALUES + SPACE)
        self.check_can_stand(b"\n", VALUES + SPACE)
        self.check_can_stand(b"(", VALUES + SPACE + b")")
        self.check_can_stand(b"( ", VALUES + SPACE + b")")
        self.check_can_stand(b"(()", VALUES + SPACE + b")")
        for whole in (b"0:", b"1:a", b'"a"', b"#61#", b"|YQ==|", b"()", b"a "):
            self.check_can_stand(b"(" + whole, VALUES + SPACE + b")")
            self.check_can_stand(b"((" + whole, VALUES + SPACE + b")")

    def test_octets_behind_the_value(self):
        for whole in (b"0:", b"1:a", b'"a"', b"#61#", b"|YQ==|", b"()", b"(a)", b"a ", b"(()) "):
            self.check_can_stand(whole, SPACE)
        for octets, place in ((b"a b", 2), (b"a(", 1), (b'a"b"', 1), (b"a)", 1), (b"()()", 2), (b"())", 2),
                              (b"1:ab", 3), (b'"a""b"', 3), (b"a#", 1), (b"a|", 1)):
            self.check_fails(octets, place)

    def test_atoms_side_by_side(self):
        self.check_atoms(b'"a""b"', b"a", b"b")
        self.check_atoms(b'a"b"c', b"a", b"b", b"c")
        self.check_atoms(b"#61##62#c", b"a", b"b", b"c")
        self.check_atoms(b"|YQ==||Yg==|c", b"a", b"b", b"c")
        self.check_atoms(b"1:a1:b0:2:cd", b"a", b"b", b"", b"cd")
        self.check_atoms(b"1:ab1:c", b"a", b"b1:c")
        self.check_atoms(b'a#62#|Yw==|"d"1:e', b"a", b"b", b"c", b"d", b"e")
        self.check_atoms(b'""##||0:', b"", b"", b"", b"")
        self.check_value(b'(a(b)"c"(#64#)())', (
            "list", (("bytes", (97,)), ("list", (("bytes", (98,)),)), ("bytes", (99,)),
                     ("list", (("bytes", (100,)),)), ("list", ()))))

    def test_other_octets(self):
        for octets, place in ((b")", 0), (b"'a'", 0), (b"[", 0), (b"{", 0), (b"(a,b)", 2), (b"(a;b)", 2), (b"(]", 1),
                              (b"\x80", 0), (b"(\xff)", 1)):
            self.check_fails(octets, place)

    def test_ends_too_early(self):
        for whole in (b'(abc "d\\n\\x41\\101e" #6 1# |Y Q==| 3:fgh())', b"0:", b"12:0123456789ab", b'"\\x41"', b"#61#",
                      b"|YQ==|", b"(a)", b"(())", b'"a\\\nb"'):
            self.check_beginnings(whole)
        for octets in (b"", b" ", SPACE, b"(", b"(a", b"(a ", b"((a)", b"1", b"10", b"1:", b'"\\1', b"#6", b"|Y",
                       b"(()"):
            self.check_ends_too_early(octets)

    def test_beginnings_of_tokens_are_texts(self):
        self.check_taken(b"a")
        self.check_taken(b"abc")
        self.check_ends_too_early(b"(abc")

    def test_levels(self):
        self.check_levels("sexp", [(b"(", 0), (b"( ", 0), (b"(a", 0)])
        self.check_fails(b"(" * 23 + b"()a(b((", 23 + 5)

    def test_a_token_ended_by_a_level_too_many(self):
        self.check_fails(b"(" * 24 + b"a(", 25)

    def test_closed_levels_do_not_count(self):
        self.check_taken(b"(" + (b"(" * 23 + b")" * 23) * 3 + b")")


class AgainstTheOracleTest(SexpScanTest):
    def test_texts_of_values(self):
        self.check_random_texts("sexp", 67, 2500)

    def test_spoiled_texts(self):
        self.check_spoiled_texts("sexp", 68, 4000, b"(())||##\"\"\\ \n0123:aAzf=+/xn-\xff")

    def test_octets_at_random(self):
        pools = (b'()a1:" ', b'"\\x01237fn\n', b"#0aF #", b"|Y=Q/+ |", b"10:ab(")
        self.check_octets_at_random(69, 3000, [b"", b"(", b'"', b"#", b"|"], pools)


class ObjectsTest(SexpScanTest):
    def test_two_side_by_side(self):
        ones, twos = b'(abc"d\\x41"(#61 62#)token)', b"((|YQ==|)3:xyz (a b)\"\\\n\")  "
        self.check_side_by_side(ones, twos)
        self.check_side_by_side(twos, ones)

    def test_returned_lists(self):
        for octets in (b"token", b'(abc"d\\x41"(#61 62#)token)', b"((|YQ==|)3:xyz (a b))  "):
            self.check_returned_lists(octets)
            self.check_kinds_of_events(octets)

    def test_a_long_text(self):
        octets = b"(" + b'(key #616263#|YQ==|"q")' * 2000 + b")"
        inner = tuple(("bytes", tuple(each)) for each in (b"key", b"abc", b"a", b"q"))
        self.check_value(octets, ("list", (("list", inner),) * 2000))


if __name__ == "__main__":
    unittest.main()
