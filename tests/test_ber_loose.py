import unittest

from formsalike.bertree.loose import BerLoose
from formsalike.bertree.read import read_ber
from tests import loosely, samples
from tests.loosely import CLOSE, LIST, MAP, key, leaf

ONE = leaf("number", 1, 0)
NULL = ("null",)
ZEROS = b"\0\0"
LIST_OPENS = b"\x30\x80"
MAP_OPENS = b"\x31\x80"
ONE_OCTETS = b"\x02\x01\x01"


def entry(string):
    """The octets of the opening of an entry and of its key."""
    octets = string.encode()
    return b"\x30\x80\x0c" + bytes([len(octets)]) + octets


class BerLooseTest(loosely.LooseTest):
    loose_class = BerLoose
    reader = staticmethod(read_ber)
    form = "ber"


class EventsTest(BerLooseTest):
    def test_leaves(self):
        for value, octets in ((NULL, b"\x05\x00"), (("truth", False), b"\x01\x01\x00"),
                              (("truth", True), b"\x01\x01\xff"), (("number", 0, 0), b"\x02\x01\x00"),
                              (("number", -1, 0), b"\x02\x01\xff"), (("number", 128, 0), b"\x02\x02\x00\x80"),
                              (("number", -129, 0), b"\x02\x02\xff\x7f"), (("number", 1, 2), b"\x02\x01\x64"),
                              (("number", 1, 64), b"\x02\x1b" + (10 ** 64).to_bytes(27, "big")),
                              (("number", 1, 65), b"\x09\x06\x031.E65"), (("number", -15, -1), b"\x09\x08\x03-15.E-1"),
                              (("bytes", ()), b"\x04\x00"), (("text", ()), b"\x0c\x00"),
                              (("text", (0x20AC,)), b"\x0c\x03\xe2\x82\xac")):
            self.check_leaf(value, octets)

    def test_lengths(self):
        for many, length in ((127, b"\x7f"), (128, b"\x81\x80"), (255, b"\x81\xff"), (256, b"\x82\x01\x00"),
                             (65535, b"\x82\xff\xff"), (65536, b"\x83\x01\x00\x00")):
            self.check_leaf(("bytes", (7,) * many), b"\x04" + length + b"\x07" * many)
            self.check_leaf(("text", (97,) * many), b"\x0c" + length + b"a" * many)
            self.check_pairs((MAP, MAP_OPENS), (key("a" * many), b"\x30\x80\x0c" + length + b"a" * many),
                             (ONE, ONE_OCTETS + ZEROS), (CLOSE, ZEROS))

    def test_lists(self):
        self.check_pairs((LIST, LIST_OPENS), (CLOSE, ZEROS))
        self.check_pairs((LIST, LIST_OPENS), (ONE, ONE_OCTETS), (leaf("null"), b"\x05\x00"), (CLOSE, ZEROS))
        self.check_pairs((LIST, LIST_OPENS), (LIST, LIST_OPENS), (CLOSE, ZEROS), (MAP, MAP_OPENS), (CLOSE, ZEROS),
                         (ONE, ONE_OCTETS), (LIST, LIST_OPENS), (ONE, ONE_OCTETS), (CLOSE, ZEROS), (CLOSE, ZEROS))

    def test_maps(self):
        self.check_pairs((MAP, MAP_OPENS), (CLOSE, ZEROS))
        self.check_pairs((MAP, MAP_OPENS), (key(""), entry("")), (ONE, ONE_OCTETS + ZEROS),
                         (key("ab"), entry("ab")), (leaf("null"), b"\x05\x00" + ZEROS), (CLOSE, ZEROS))

    def test_values_of_entries_that_are_lists_and_maps(self):
        self.check_pairs((MAP, MAP_OPENS), (key("a"), entry("a")), (LIST, LIST_OPENS), (CLOSE, ZEROS + ZEROS),
                         (key("b"), entry("b")), (MAP, MAP_OPENS), (CLOSE, ZEROS + ZEROS), (CLOSE, ZEROS))
        self.check_pairs((MAP, MAP_OPENS), (key("a"), entry("a")), (LIST, LIST_OPENS), (ONE, ONE_OCTETS),
                         (LIST, LIST_OPENS), (CLOSE, ZEROS), (MAP, MAP_OPENS), (CLOSE, ZEROS), (ONE, ONE_OCTETS),
                         (CLOSE, ZEROS + ZEROS), (key("b"), entry("b")), (ONE, ONE_OCTETS + ZEROS), (CLOSE, ZEROS))
        self.check_pairs((LIST, LIST_OPENS), (MAP, MAP_OPENS), (key("a"), entry("a")), (MAP, MAP_OPENS),
                         (key("a"), entry("a")), (MAP, MAP_OPENS), (CLOSE, ZEROS + ZEROS), (CLOSE, ZEROS + ZEROS),
                         (CLOSE, ZEROS), (ONE, ONE_OCTETS), (CLOSE, ZEROS))

    def test_entries_as_they_come(self):
        self.check_pairs((MAP, MAP_OPENS), (key("b"), entry("b")), (ONE, ONE_OCTETS + ZEROS), (key("aa"), entry("aa")),
                         (leaf("null"), b"\x05\x00" + ZEROS), (key("a"), entry("a")), (ONE, ONE_OCTETS + ZEROS),
                         (CLOSE, ZEROS))


class WholeTest(BerLooseTest):
    def test_random_values(self):
        self.check_random_values(161, 600)

    def test_small_values(self):
        for value in samples.LEAVES + samples.SMALL_TREES:
            self.check_value(value)

    def test_depth(self):
        self.check_depths()

    def test_long(self):
        self.check_value(("list", (("number", 1, 0), NULL) * 1500))
        self.check_value(("map", tuple(((at // 100, at), NULL) for at in range(2000))))

    def test_side_by_side(self):
        self.check_side_by_side(162, 100)

    def test_returned_lists(self):
        for value in samples.LEAVES + samples.SMALL_TREES + samples.random_values(163, 50):
            self.check_returned_lists(value)
        for value in samples.LEAVES:
            self.check_same_events_again(value)


if __name__ == "__main__":
    unittest.main()
