import unittest

from formsalike.bencoded.loose import BencodeLoose
from formsalike.bencoded.read import read_bencode
from tests import loosely, samples
from tests.loosely import CLOSE, LIST, MAP, key, leaf

ONE = leaf("number", 1, 0)
EMPTY = leaf("bytes", ())
LACKING = [leaf("null"), leaf("truth", True), leaf("truth", False), leaf("text", ()), leaf("text", (97,)),
           leaf("number", 1, -1), leaf("number", -7, -10 ** 999), leaf("number", 1, 801), leaf("number", -7, 10 ** 999)]
LEAVES = [("number", 0, 0), ("number", -7, 0), ("number", 12, 800), ("bytes", ()), ("bytes", (0, 255)),
          ("bytes", (58,) * 100)]


class BencodeLooseTest(loosely.LooseTest):
    loose_class = BencodeLoose
    reader = staticmethod(read_bencode)
    form = "bencode"


class EventsTest(BencodeLooseTest):
    def test_numbers(self):
        for m, e, octets in ((0, 0, b"i0e"), (1, 0, b"i1e"), (-1, 0, b"i-1e"), (-12, 3, b"i-12000e"),
                             (7, 800, b"i7" + b"0" * 800 + b"e"), (-7, 799, b"i-7" + b"0" * 799 + b"e"),
                             (10 ** 1999 + 1, 0, b"i1" + b"0" * 1998 + b"1e")):
            self.check_leaf(("number", m, e), octets)

    def test_bytes(self):
        for octets in (b"", b"a", b"spam", b"0123456789", bytes(range(256)), b"x" * 1000):
            self.check_leaf(("bytes", tuple(octets)), b"%d:" % len(octets) + octets)

    def test_lists(self):
        self.check_pairs((LIST, b"l"), (CLOSE, b"e"))
        self.check_pairs((LIST, b"l"), (ONE, b"i1e"), (EMPTY, b"0:"), (LIST, b"l"), (ONE, b"i1e"), (CLOSE, b"e"),
                         (MAP, b"d"), (CLOSE, b"e"), (ONE, b"i1e"), (CLOSE, b"e"))

    def test_maps(self):
        self.check_pairs((MAP, b"d"), (CLOSE, b"e"))
        self.check_pairs((MAP, b"d"), (key(""), b"0:"), (ONE, b"i1e"), (key("\u20ac"), b"3:\xe2\x82\xac"), (LIST, b"l"),
                         (ONE, b"i1e"), (CLOSE, b"e"), (key("ab"), b"2:ab"), (MAP, b"d"), (key("a"), b"1:a"),
                         (EMPTY, b"0:"), (CLOSE, b"e"), (CLOSE, b"e"))

    def test_entries_as_they_come(self):
        self.check_pairs((MAP, b"d"), (key("b"), b"1:b"), (ONE, b"i1e"), (key("aa"), b"2:aa"), (ONE, b"i1e"),
                         (key("a"), b"1:a"), (ONE, b"i1e"), (CLOSE, b"e"))


class LacksTest(BencodeLooseTest):
    def test_at_the_first_event(self):
        for lacking in LACKING:
            self.check_lacks_at([lacking], 0)
            self.check_lacks_at([LIST, lacking], 1)
            self.check_lacks_at([LIST, ONE, EMPTY, lacking], 3)
            self.check_lacks_at([LIST, LIST, CLOSE, MAP, CLOSE, lacking], 3)

    def test_keys_do_not_count(self):
        for lacking in LACKING:
            self.check_lacks_at([MAP, key("a"), lacking], 1)
            self.check_lacks_at([MAP, key("b"), ONE, key("a"), MAP, key("c"), ONE, CLOSE, key("d"), lacking], 4)

    def test_deep_and_long(self):
        for lacking in LACKING[:3]:
            self.check_lacks(samples.nested(24, lacking[1]))
            self.check_lacks_at([LIST] + [ONE] * 3000 + [lacking], 3001)

    def test_random_values(self):
        self.check_random_lacks(121, 400)


class WholeTest(BencodeLooseTest):
    def test_random_values(self):
        self.check_random_values(122, 600)

    def test_depth(self):
        self.check_depths()

    def test_long(self):
        self.check_value(("list", (("number", 1, 0), ("bytes", (1, 2))) * 1500))
        self.check_value(("map", tuple(((at // 100, at), ("bytes", (1,))) for at in range(2000))))

    def test_side_by_side(self):
        self.check_side_by_side(123, 100)

    def test_returned_lists(self):
        for value in LEAVES + samples.random_values(124, 50, "bencode"):
            self.check_returned_lists(value)
        for value in LEAVES:
            self.check_same_events_again(value)


if __name__ == "__main__":
    unittest.main()
