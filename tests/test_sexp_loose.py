import unittest

from formsalike.sexprs.loose import SexpLoose
from formsalike.sexprs.read import read_sexp
from tests import loosely, samples
from tests.loosely import CLOSE, LIST, MAP, leaf

TOKEN_BEGINS = b"ABCDEFGHIJKLMNOPQRSTUVWXYZabcdefghijklmnopqrstuvwxyz-./_:*+="
DIGITS = b"0123456789"
ONE = leaf("bytes", (97,))
LACKING = [leaf("null"), leaf("truth", True), leaf("truth", False), leaf("number", 0, 0), leaf("number", 1, 5),
           leaf("text", ()), leaf("text", (97,)), MAP]


def atom(octets):
    return leaf("bytes", tuple(octets))


class SexpLooseTest(loosely.LooseTest):
    loose_class = SexpLoose
    reader = staticmethod(read_sexp)
    form = "sexp"

    def check_atom(self, octets, written):
        self.check_leaf(("bytes", tuple(octets)), written)


class AtomsTest(SexpLooseTest):
    def test_tokens(self):
        for octet in TOKEN_BEGINS:
            one = bytes([octet])
            for octets in (one, one + b"0", one + DIGITS, one + one, one + b"9a"):
                self.check_atom(octets, octets)
        self.check_atom(TOKEN_BEGINS + DIGITS + TOKEN_BEGINS, TOKEN_BEGINS + DIGITS + TOKEN_BEGINS)
        self.check_atom(b"a" * 1000, b"a" * 1000)

    def test_each_octet_alone(self):
        for octet in range(256):
            one = bytes([octet])
            if octet in TOKEN_BEGINS:
                self.check_atom(one, one)
            elif octet in b'"\\':
                self.check_atom(one, b'"\\' + one + b'"')
            elif 32 <= octet <= 126:
                self.check_atom(one, b'"' + one + b'"')
            else:
                self.check_atom(one, b"#%02x#" % octet)

    def test_each_octet_behind_a_letter(self):
        for octet in range(256):
            octets = b"k" + bytes([octet])
            if octet in TOKEN_BEGINS + DIGITS:
                self.check_atom(octets, octets)
            elif octet in b'"\\':
                self.check_atom(octets, b'"k\\' + octets[1:] + b'"')
            elif 32 <= octet <= 126:
                self.check_atom(octets, b'"' + octets + b'"')
            else:
                self.check_atom(octets, b"#6b%02x#" % octet)

    def test_digits_at_the_beginning(self):
        for octets in (b"0", b"9", b"1a", b"0123", b"5:abcde"):
            self.check_atom(octets, b'"' + octets + b'"')

    def test_empty(self):
        self.check_atom(b"", b'""')

    def test_quotes_and_backslashes(self):
        self.check_atom(b'"', b'"\\""')
        self.check_atom(b"\\", b'"\\\\"')
        self.check_atom(b'a"b\\c""', b'"a\\"b\\\\c\\"\\""')
        self.check_atom(b"it's (a) #b# |c| ?", b'"it\'s (a) #b# |c| ?"')

    def test_the_edges_of_quoted_atoms(self):
        self.check_atom(b" ~", b'" ~"')
        for octet in (0, 9, 10, 31, 127, 128, 255):
            for before, behind in ((b"", b""), (b" ", b""), (b"", b"~"), (b"abc", b'"')):
                octets = before + bytes([octet]) + behind
                self.check_atom(octets, b"#" + octets.hex().encode() + b"#")

    def test_hexadecimal(self):
        self.check_atom(b"\xab\xcd\xef\x01", b"#abcdef01#")
        self.check_atom(bytes(range(256)), b"#" + bytes(range(256)).hex().encode() + b"#")
        self.check_atom(b"a" * 1000 + b"\xff", b"#" + b"61" * 1000 + b"ff#")


class EventsTest(SexpLooseTest):
    def test_lists(self):
        self.check_pairs((LIST, b"("), (CLOSE, b")"))
        self.check_pairs((LIST, b"("), (ONE, b"a"), (CLOSE, b")"))
        self.check_pairs((LIST, b"("), (ONE, b"a"), (ONE, b" a"), (atom(b""), b' ""'), (atom(b"\0"), b" #00#"),
                         (CLOSE, b")"))

    def test_lists_as_items(self):
        self.check_pairs((LIST, b"("), (LIST, b"("), (CLOSE, b")"), (LIST, b" ("), (CLOSE, b")"), (CLOSE, b")"))
        self.check_pairs((LIST, b"("), (LIST, b"("), (ONE, b"a"), (LIST, b" ("), (ONE, b"a"), (CLOSE, b")"),
                         (ONE, b" a"), (CLOSE, b")"), (ONE, b" a"), (LIST, b" ("), (LIST, b"("), (ONE, b"a"),
                         (CLOSE, b")"), (CLOSE, b")"), (LIST, b" ("), (CLOSE, b")"), (ONE, b" a"), (CLOSE, b")"))


class LacksTest(SexpLooseTest):
    def test_at_the_first_event(self):
        for lacking in LACKING:
            self.check_lacks_at([lacking], 0)
            self.check_lacks_at([LIST, lacking], 1)
            self.check_lacks_at([LIST, ONE, LIST, CLOSE, LIST, ONE, CLOSE, lacking], 5)

    def test_a_map_before_what_is_in_it(self):
        self.check_lacks(("map", (((97,), ("null",)),)))
        self.check_lacks(("list", (("bytes", ()), ("map", (((97,), ("number", 1, 0)),)))))

    def test_deep_and_long(self):
        for value in (("null",), ("map", ()), ("map", (((), ("bytes", ())),))):
            self.check_lacks(samples.nested(23, value, False))
        self.check_lacks_at([LIST] + [ONE] * 3000 + [MAP], 3001)

    def test_random_values(self):
        self.check_random_lacks(171, 400)


class WholeTest(SexpLooseTest):
    def test_random_values(self):
        self.check_random_values(172, 600)

    def test_depth(self):
        self.check_depths()

    def test_long(self):
        self.check_value(("list", (("bytes", (97,)), ("bytes", (0,)), ("list", ())) * 1000))

    def test_side_by_side(self):
        self.check_side_by_side(173, 100)

    def test_returned_lists(self):
        leaves = [("bytes", octets) for octets in ((), (97,), (48, 49), (0, 255), (34, 92))]
        for value in leaves + samples.random_values(174, 50, "sexp"):
            self.check_returned_lists(value)
        for value in leaves:
            self.check_same_events_again(value)


if __name__ == "__main__":
    unittest.main()
