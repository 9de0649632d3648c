import unittest

from formsalike.cbortree.loose import CborLoose
from formsalike.cbortree.read import read_cbor
from tests import loosely, samples
from tests.loosely import CLOSE, LIST, MAP, key, leaf

ONE = leaf("number", 1, 0)
NULL = ("null",)
FAR = 10 ** 9
LACKING = [leaf("number", m, e) for m in (7, -7) for e in (-FAR - 1, FAR + 1, -FAR - 2, -10 ** 999, 10 ** 999)]


class CborLooseTest(loosely.LooseTest):
    loose_class = CborLoose
    reader = staticmethod(read_cbor)
    form = "cbor"


class EventsTest(CborLooseTest):
    def test_null_and_truths(self):
        self.check_leaf(NULL, b"\xf6")
        self.check_leaf(("truth", False), b"\xf4")
        self.check_leaf(("truth", True), b"\xf5")

    def test_numbers(self):
        for m, e, octets in ((0, 0, b"\x00"), (23, 0, b"\x17"), (24, 0, b"\x18\x18"), (255, 0, b"\x18\xff"),
                             (256, 0, b"\x19\x01\x00"), (65535, 0, b"\x19\xff\xff"), (65536, 0, b"\x1a\0\x01\0\0"),
                             (2 ** 32 - 1, 0, b"\x1a\xff\xff\xff\xff"), (2 ** 32, 0, b"\x1b\0\0\0\x01\0\0\0\0"),
                             (2 ** 64 - 1, 0, b"\x1b" + b"\xff" * 8), (2 ** 64, 0, b"\xc2\x49\x01" + b"\0" * 8),
                             (-1, 0, b"\x20"), (-24, 0, b"\x37"), (-25, 0, b"\x38\x18"), (-256, 0, b"\x38\xff"),
                             (-257, 0, b"\x39\x01\x00"), (-2 ** 64, 0, b"\x3b" + b"\xff" * 8),
                             (-1 - 2 ** 64, 0, b"\xc3\x49\x01" + b"\0" * 8), (1, 3, b"\x19\x03\xe8"),
                             (1, 64, b"\xc2\x58\x1b" + (10 ** 64).to_bytes(27, "big")),
                             (1, 65, b"\xc4\x82\x18\x41\x01"),
                             (15, -1, b"\xc4\x82\x20\x0f"), (-15, -1, b"\xc4\x82\x20\x2e"),
                             (7, FAR, b"\xc4\x82\x1a\x3b\x9a\xca\x00\x07"),
                             (-7, -FAR, b"\xc4\x82\x3a\x3b\x9a\xc9\xff\x26"),
                             (2 ** 64 + 1, -1, b"\xc4\x82\x20\xc2\x49\x01" + b"\0" * 7 + b"\x01")):
            self.check_leaf(("number", m, e), octets)

    def test_strings(self):
        for many, argument in ((0, b"\0"), (1, b"\x01"), (23, b"\x17"), (24, b"\x18\x18"), (255, b"\x18\xff"),
                               (256, b"\x19\x01\x00"), (65535, b"\x19\xff\xff"), (65536, b"\x1a\0\x01\0\0")):
            head = bytes([0x40 + argument[0]]) + argument[1:]
            self.check_leaf(("bytes", (7,) * many), head + b"\x07" * many)
            head = bytes([0x60 + argument[0]]) + argument[1:]
            self.check_leaf(("text", (97,) * many), head + b"a" * many)
            self.check_pairs((MAP, b"\xbf"), (key("a" * many), head + b"a" * many), (ONE, b"\x01"), (CLOSE, b"\xff"))
        self.check_leaf(("text", (0x20AC,) * 8), b"\x78\x18" + b"\xe2\x82\xac" * 8)

    def test_lists(self):
        self.check_pairs((LIST, b"\x9f"), (CLOSE, b"\xff"))
        self.check_pairs((LIST, b"\x9f"), (ONE, b"\x01"), (LIST, b"\x9f"), (CLOSE, b"\xff"), (MAP, b"\xbf"),
                         (CLOSE, b"\xff"), (ONE, b"\x01"), (LIST, b"\x9f"), (ONE, b"\x01"), (CLOSE, b"\xff"),
                         (CLOSE, b"\xff"))

    def test_maps(self):
        self.check_pairs((MAP, b"\xbf"), (CLOSE, b"\xff"))
        self.check_pairs((MAP, b"\xbf"), (key(""), b"\x60"), (ONE, b"\x01"), (key("a"), b"\x61a"), (LIST, b"\x9f"),
                         (CLOSE, b"\xff"), (key("\u20ac"), b"\x63\xe2\x82\xac"), (MAP, b"\xbf"), (key("a"), b"\x61a"),
                         (ONE, b"\x01"), (CLOSE, b"\xff"), (CLOSE, b"\xff"))

    def test_entries_as_they_come(self):
        self.check_pairs((MAP, b"\xbf"), (key("b"), b"\x61b"), (ONE, b"\x01"), (key("aa"), b"\x62aa"), (ONE, b"\x01"),
                         (key("a"), b"\x61a"), (ONE, b"\x01"), (CLOSE, b"\xff"))


class LacksTest(CborLooseTest):
    def test_at_the_event_of_the_number(self):
        for lacking in LACKING:
            self.check_lacks_at([lacking], 0)
            self.check_lacks_at([LIST, lacking], 1)
            self.check_lacks_at([LIST, LIST, ONE, CLOSE, MAP, CLOSE, ONE, lacking], 5)
            self.check_lacks_at([MAP, key("b"), ONE, key("a"), LIST, CLOSE, key("c"), lacking], 3)

    def test_deep_and_long(self):
        for lacking in LACKING[:3]:
            self.check_lacks(samples.nested(24, lacking[1]))
            self.check_lacks_at([LIST] + [ONE] * 3000 + [lacking], 3001)


class WholeTest(CborLooseTest):
    def test_random_values(self):
        self.check_random_values(151, 600)

    def test_small_values(self):
        for value in samples.LEAVES[:5] + samples.LEAVES[6:] + samples.SMALL_TREES:
            self.check_value(value)

    def test_depth(self):
        self.check_depths()

    def test_long(self):
        self.check_value(("list", (("number", 1, 0), NULL) * 1500))
        self.check_value(("map", tuple(((at // 100, at), NULL) for at in range(2000))))

    def test_side_by_side(self):
        self.check_side_by_side(152, 100)

    def test_returned_lists(self):
        leaves = samples.LEAVES[:5] + samples.LEAVES[6:]
        for value in leaves + samples.SMALL_TREES + samples.random_values(153, 50, "cbor"):
            self.check_returned_lists(value)
        for value in leaves:
            self.check_same_events_again(value)


if __name__ == "__main__":
    unittest.main()
