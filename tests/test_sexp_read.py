import base64
import unittest

from formsalike.sexprs.read import read_sexp
from formsalike.sexprs.scan import SexpScanner
from tests import reading, sexporacle

SPACE = b" \t\n\v\f\r"
TOKEN_BEGINS = b"ABCDEFGHIJKLMNOPQRSTUVWXYZabcdefghijklmnopqrstuvwxyz-./_:*+="


class SexpReadTest(reading.ReadTest):
    reader = staticmethod(read_sexp)
    scanner_class = SexpScanner
    oracle = sexporacle
    form = "sexp"

    def check_atom(self, octets, wanted):
        value = ("bytes", tuple(wanted))
        self.check_value(octets, *value)
        self.check_value(b"\n" + octets + b" ", *value)
        self.check_value(b"(" + octets + b"(" + octets + b"))", "list", (value, ("list", (value,))))

    def check_atom_fails(self, octets, index):
        """The octet at the index fails, alone and in a list."""
        self.check_fails(octets, index)
        self.check_fails(b"(" + octets, index + 1)


class AtomsTest(SexpReadTest):
    def test_each_way(self):
        for octets in (b"abc", b"3:abc", b'"abc"', b'"\\x61\\142c"', b"#616263#", b"# 6 1 6 2 6 3 #", b"|YWJj|",
                       b"|Y W J j |"):
            self.check_atom(octets, b"abc")
        for octets in (b"0:", b'""', b"##", b"||", b"# #", b"| |", b'"\\\n"'):
            self.check_atom(octets, b"")

    def test_counted(self):
        self.check_atom(b"1:(", b"(")
        self.check_atom(b"10:0123456789", b"0123456789")
        self.check_atom(b"256:" + bytes(range(256)), range(256))
        for octets, index in ((b"00:", 1), (b"01:a", 1), (b"1a:", 1), (b"1 :a", 1), (b'3"abc"', 1), (b"2#6161#", 1),
                              (b"4|YQ==|", 1), (b"1(", 1)):
            self.check_atom_fails(octets, index)

    def test_tokens(self):
        everything = TOKEN_BEGINS + b"0123456789"
        self.check_atom(everything, everything)
        for octet in TOKEN_BEGINS:
            self.check_atom(bytes([octet, 48]), [octet, 48])
        for octet in b"!$%&',;<>?@[\\]^`{}~\x00\x7f\x80\xff":
            self.check_atom_fails(bytes([octet]), 0)
            self.check_atom_fails(b"a" + bytes([octet]), 1)

    def test_quoted_characters(self):
        plain = bytes(octet for octet in range(32, 127) if octet not in b'"\\')
        self.check_atom(b'"' + plain + b'"', plain)
        for octet in [*range(32), *range(127, 256)]:
            self.check_atom_fails(b'"a' + bytes([octet]) + b'"', 2)

    def test_short_escapes(self):
        for sign, octet in ((b"b", 8), (b"t", 9), (b"v", 11), (b"n", 10), (b"f", 12), (b"r", 13), (b'"', 34),
                            (b"'", 39), (b"\\", 92), (b"?", 63)):
            self.check_atom(b'"x\\' + sign + b'y"', [120, octet, 121])
        self.check_atom(b'"a\\\nb\\\n\\\n"', b"ab")
        for octet in set(range(256)) - set(b"btvnfr\"'\\?0123x\n"):
            self.check_atom_fails(b'"\\' + bytes([octet]), 2)

    def test_octal_and_hexadecimal_escapes(self):
        for octet in range(256):
            self.check_atom(b'"\\%03o"' % octet, [octet])
            self.check_atom(b'"\\x%02x\\x%02X"' % (octet, octet), [octet, octet])
        self.check_atom(b'"\\0000\\3777\\x417"', [0, 48, 255, 55, 65, 55])
        for octets, index in ((b'"\\400"', 2), (b'"\\8"', 2), (b'"\\08"', 3), (b'"\\008"', 4), (b'"\\0"', 3),
                              (b'"\\00"', 4),
                              (b'"\\x"', 3), (b'"\\x1"', 4), (b'"\\X41"', 2), (b'"\\xg0"', 3), (b'"\\x0g"', 4),
                              (b'"\\377\\378"', 8)):
            self.check_atom_fails(octets, index)

    def test_hexadecimal(self):
        self.check_atom(b"#00fF7FAbcDeF#", [0, 255, 127, 0xAB, 0xCD, 0xEF])
        self.check_atom(b"#" + bytes(range(256)).hex().encode() + b"#", range(256))
        for octet in SPACE:
            self.check_atom(b"#" + bytes([octet]).join([b"", b"6", b"1", b"6", b"2", b""]) + b"#", b"ab")
        for octets, index in ((b"#6#", 2), (b"#616#", 4), (b"#6 #", 3), (b"#g0#", 1), (b"#0x61#", 2), (b"#6)", 2),
                              (b'#"', 1)):
            self.check_atom_fails(octets, index)

    def test_base64(self):
        for many in range(256):
            octets = bytes(range(255, 255 - many, -1))
            self.check_atom(b"|" + base64.b64encode(octets) + b"|", octets)
        for octet in SPACE:
            self.check_atom(b"|" + bytes([octet]).join([b"", b"Y", b"Q", b"=", b"=", b""]) + b"|", b"a")
        for octets, index in ((b"|Y|", 2), (b"|YQ|", 3), (b"|YQ=|", 4), (b"|YWI|", 4), (b"|YWJjY|", 6), (b"|YR==|", 3),
                              (b"|YWJ=|", 4), (b"|=|", 1), (b"|Y=|", 2), (b"|YQ===|", 5), (b"|YWI==|", 5),
                              (b"|YWJj=|", 5),
                              (b"|YQ==Y|", 5), (b"|YQ=Y|", 4), (b"|-_|", 1), (b"|#|", 1), (b"|YQ =\n|", 6)):
            self.check_atom_fails(octets, index)

    def test_rows(self):
        for octets in (b'(a "b" #63#)', b"", b"(", b"token", b"a b", b"3:abc"):
            self.check_rows(octets)


class ListsTest(SexpReadTest):
    def test_lists(self):
        self.check_value(b"()", "list", ())
        self.check_value(b"(())", "list", (("list", ()),))
        self.check_value(b"(a (b) () c)", "list", (
            ("bytes", (97,)), ("list", (("bytes", (98,)),)), ("list", ()), ("bytes", (99,))))

    def test_whitespace_in_each_place(self):
        marks = [b"(", b"a", b"(", b'"b"', b"#63#", b")", b"|ZA==|", b"1:e", b"(", b")", b")"]
        value = ("list", (("bytes", (97,)), ("list", (("bytes", (98,)), ("bytes", (99,)))), ("bytes", (100,)),
                          ("bytes", (101,)), ("list", ())))
        self.check_value(b"".join(marks), *value)
        self.check_value(SPACE + SPACE.join(marks) + SPACE, *value)
        for at in range(len(marks) + 1):
            before, behind = b"".join(marks[:at]), b"".join(marks[at:])
            for one in SPACE:
                self.check_value(before + bytes([one]) * 2 + behind, *value)
            for one in (0, 8, 14, 31, 133, 160):
                self.check_fails(before + bytes([one]) + behind, len(before))

    def test_atoms_side_by_side(self):
        atoms = tuple(("bytes", (octet,)) for octet in b"abcde")
        for octets in (b'(a#62#|Yw==|"d"1:e)', b'("a""b""c""d""e")', b"(1:a1:b1:c1:de)", b"(#61##62#c|ZA==||ZQ==|)",
                       b"(a b c d e)", b'(a"b"c#64#e)'):
            self.check_value(octets, "list", atoms)

    def test_octets_that_fail(self):
        for octets, place in ((b")", 0), (b"'a'", 0), (b"[", 0), (b"(a,b)", 2), (b"(a;b)", 2), (b"(]", 1),
                              (b"\x80", 0)):
            self.check_fails(octets, place)

    def test_octets_behind_the_value(self):
        for octets, place in ((b"a b", 2), (b"a(", 1), (b'a"b"', 1), (b"a)", 1), (b"()()", 2), (b"())", 2),
                              (b"1:ab", 3),
                              (b"0:a", 2), (b'"a""b"', 3), (b"() ()", 3), (b"#61##62#", 4), (b"|YQ==|a", 6)):
            self.check_fails(octets, place)

    def test_beginnings(self):
        self.check_nothing()
        for octets in (b' (abc "d\\n\\x41\\101e" #6 1# |Y Q==| 3:fgh()) ', b"0:", b"12:0123456789ab", b'"\\x41"',
                       b"#61#", b"|YQ==|", b"(a)", b"token", b'"a\\\nb"'):
            self.check_beginnings(octets)
        for octets in (b" ", SPACE, b"(", b"(a", b"(a ", b"((a)", b"1", b"1:", b'"', b'"\\', b'"\\1', b"#", b"#6",
                       b"|", b"|YQ="):
            self.check_ends_too_early(octets)

    def test_depth(self):
        self.check_depth(b"(", b")", [(b"(", 0), (b"a(", 1), (b" (", 1)])


class AgainstTheScannerTest(SexpReadTest):
    def test_ordinary_texts(self):
        self.check_random_texts(91, 2000)

    def test_spoiled_texts(self):
        self.check_spoiled_texts(92, 5000, b"(())||##\"\"\\ \n0123:aAzf=+/xn-\xff")

    def test_each_fault(self):
        for octets in (b'(a "b\\x41\\101\\n" #6 1#)', b"(|YWI=|2:ab ()c)", b" |Y W J j|\n"):
            self.check_each_fault(octets, b'()"#|\\ 019:aAfxn=\n\x00\xff')


if __name__ == "__main__":
    unittest.main()
