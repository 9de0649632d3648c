import unittest

from formsalike.sexprs.read import read_sexp
from formsalike.sexprs.write import sexp_lacks, write_sexp
from tests import samples, sexporacle, writing

ONE = ("bytes", (1,))
EMPTY = ("list", ())
LACKING = [samples.NULL, samples.TRUE, samples.FALSE, ("number", 0, 0), ("number", 15, -1), ("text", ()),
           ("text", (97,)), ("map", ()), ("map", (((97,), ONE),)), ("map", (((97,), samples.NULL),))]


def bytes_of(octets):
    return ("bytes", tuple(octets))


class SexpWriteTest(writing.WriteTest):
    oracle = sexporacle

    def write(self, value):
        return write_sexp(value)

    def lacks(self, value):
        return sexp_lacks(value)


class KindsTest(SexpWriteTest):
    def test_bytes(self):
        self.check_written(bytes_of(b""), b"0:")
        for octets in (b"a", b"(", b"token", b'"', b"\x00\xff", b"1:", b"#61#"):
            self.check_written(bytes_of(octets), b"%d:" % len(octets) + octets)
            self.check_written(("list", (bytes_of(octets),)), b"(%d:" % len(octets) + octets + b")")
        self.check_written(bytes_of(range(256)), b"256:" + bytes(range(256)))

    def test_lengths(self):
        for many in (0, 1, 8, 9, 10, 11, 99, 100, 101, 999, 1000, 65535, 65536, 100000):
            self.check_written(bytes_of(b"x" * many), b"%d:" % many + b"x" * many)

    def test_lists(self):
        self.check_written(EMPTY, b"()")
        self.check_written(("list", (EMPTY,)), b"(())")
        self.check_written(("list", (EMPTY, EMPTY)), b"(()())")
        self.check_written(("list", (bytes_of(b"a"), bytes_of(b""), bytes_of(b"bc"))), b"(1:a0:2:bc)")
        self.check_written(("list", (bytes_of(b"a"), ("list", (bytes_of(b"b"), EMPTY)), bytes_of(b"c"))),
                           b"(1:a(1:b())1:c)")

    def test_no_whitespace_and_counted_atoms_alone(self):
        for text, written in ((b" ( a \"b c\" #64 65# |ZmY=| 1:g ( ) ) ", b"(1:a3:b c2:de2:ff1:g())"),
                              (b"token ", b"5:token"), (b'"\\n"', b"1:\n"), (b"( )", b"()"), (b'""', b"0:"),
                              (b"##", b"0:"), (b"||", b"0:"), (b"(a\n(b\t(c\r)))", b"(1:a(1:b(1:c)))")):
            self.assertEqual(bytes(write_sexp(read_sexp(list(text)))), written)
            self.assertEqual(bytes(write_sexp(read_sexp(list(written)))), written)


class LacksTest(SexpWriteTest):
    def test_each_kind(self):
        for value in LACKING:
            self.check_lacks(value, 0)
            self.check_lacks(("list", (value,)), 1)
            self.check_lacks(("list", (ONE, EMPTY, value, ONE)), 3)
            self.check_lacks(("list", (("list", (ONE, ("list", (ONE,)))), value)), 5)
            self.check_lacks(("list", (("list", (ONE, value)), value)), 3)
            self.check_lacks(samples.nested(24, value, False), 24)

    def test_a_map_before_what_is_in_it(self):
        for value in LACKING:
            self.check_lacks(("map", (((), value),)), 0)
            self.check_lacks(("list", (ONE, ("map", (((), value), ((97,), ONE))))), 2)

    def test_the_first_one_in_preorder_counts(self):
        for first in LACKING:
            for second in LACKING:
                self.check_lacks(("list", (ONE, first, second)), 2)
        self.check_lacks(("list", (ONE,) * 5000 + (samples.NULL,)), 5001)

    def test_nothing_is_lacking(self):
        for value in (ONE, EMPTY, bytes_of(b""), samples.nested(24, None, False), samples.nested(24, ONE, False)):
            self.assertIsNone(sexp_lacks(value))


class WholeTest(SexpWriteTest):
    def test_random_values(self):
        self.check_random_values("sexp", 131, 500)
        self.check_random_canonical("sexp", 132, 600)

    def test_read_again(self):
        self.check_read_again(read_sexp, 133, 1000, "sexp", b"(())||##\"\"\\ \n0123:aAzf=+/xn-\xff")

    def test_depth(self):
        self.check_depths("sexp")
        for levels in range(1, 25):
            self.check_written(samples.nested(levels, ONE, False), b"(" * levels + b"1:\x01" + b")" * levels)
            self.check_written(samples.nested(levels, None, False), b"(" * levels + b")" * levels)

    def test_long_lists(self):
        self.check_written(("list", (ONE,) * 20000), b"(" + b"1:\x01" * 20000 + b")")
        self.check_written(("list", (EMPTY, ONE) * 2000), b"(" + b"()1:\x01" * 2000 + b")")

    def test_the_returned_list(self):
        for value in (ONE, bytes_of(b""), EMPTY, ("list", (ONE, EMPTY)), bytes_of(b"abc")):
            self.check_returned_list(value)


if __name__ == "__main__":
    unittest.main()
