import unittest

from formsalike.jsontext.loose import JsonLoose
from formsalike.jsontext.read import read_json
from tests import loosely, samples
from tests.loosely import CLOSE, LIST, MAP, key, leaf

NULL = ("null",)
ONE = leaf("number", 1, 0)
BYTES = leaf("bytes", (1,))


def text(string):
    return leaf("text", tuple(map(ord, string)))


class JsonLooseTest(loosely.LooseTest):
    loose_class = JsonLoose
    reader = staticmethod(read_json)
    form = "json"


class EventsTest(JsonLooseTest):
    def test_leaves_alone(self):
        for value, octets in ((NULL, b"null"), (("truth", True), b"true"), (("truth", False), b"false"),
                              (("number", 0, 0), b"0"), (("number", -15, -1), b"-1.5"), (("number", 1, 21), b"1e+21"),
                              (("number", 12, -8), b"1.2e-7"), (("text", ()), b'""'), (("text", (97,)), b'"a"'),
                              (("text", (34, 47, 92, 31, 10, 127, 0x20AC)), b'"\\"/\\\\\\u001f\\n\x7f\xe2\x82\xac"')):
            self.check_leaf(value, octets)

    def test_lists(self):
        self.check_pairs((LIST, b"["), (CLOSE, b"]"))
        self.check_pairs((LIST, b"["), (ONE, b"1"), (CLOSE, b"]"))
        self.check_pairs((LIST, b"["), (ONE, b"1"), (text("a"), b', "a"'), (leaf("null"), b", null"), (CLOSE, b"]"))

    def test_maps(self):
        self.check_pairs((MAP, b"{"), (CLOSE, b"}"))
        self.check_pairs((MAP, b"{"), (key("a"), b'"a"'), (ONE, b": 1"), (CLOSE, b"}"))
        self.check_pairs((MAP, b"{"), (key("a"), b'"a"'), (ONE, b": 1"), (key(""), b', ""'), (text("x"), b': "x"'),
                         (key("\n"), b', "\\n"'), (leaf("truth", True), b": true"), (CLOSE, b"}"))

    def test_lists_and_maps_as_items(self):
        self.check_pairs((LIST, b"["), (LIST, b"["), (CLOSE, b"]"), (LIST, b", ["), (CLOSE, b"]"), (MAP, b", {"),
                         (CLOSE, b"}"), (MAP, b", {"), (CLOSE, b"}"), (ONE, b", 1"), (LIST, b", ["), (ONE, b"1"),
                         (ONE, b", 1"), (CLOSE, b"]"), (ONE, b", 1"), (CLOSE, b"]"))
        self.check_pairs((LIST, b"["), (MAP, b"{"), (key("a"), b'"a"'), (ONE, b": 1"), (CLOSE, b"}"), (ONE, b", 1"),
                         (CLOSE, b"]"))

    def test_lists_and_maps_as_values(self):
        self.check_pairs((MAP, b"{"), (key("a"), b'"a"'), (LIST, b": ["), (CLOSE, b"]"), (key("b"), b', "b"'),
                         (MAP, b": {"), (CLOSE, b"}"), (key("c"), b', "c"'), (MAP, b": {"), (key("a"), b'"a"'),
                         (LIST, b": ["), (ONE, b"1"), (ONE, b", 1"), (CLOSE, b"]"), (key("b"), b', "b"'), (ONE, b": 1"),
                         (CLOSE, b"}"), (key("d"), b', "d"'), (ONE, b": 1"), (CLOSE, b"}"))

    def test_entries_as_they_come(self):
        self.check_pairs((MAP, b"{"), (key("b"), b'"b"'), (ONE, b": 1"), (key("aa"), b', "aa"'), (ONE, b": 1"),
                         (key("\uffff"), b', "\xef\xbf\xbf"'), (ONE, b": 1"),
                         (key("\U00010000"), b', "\xf0\x90\x80\x80"'), (ONE, b": 1"), (key("a"), b', "a"'),
                         (ONE, b": 1"), (CLOSE, b"}"))
        self.check_pairs((MAP, b"{"), (key("\U00010000"), b'"\xf0\x90\x80\x80"'), (ONE, b": 1"),
                         (key("\uffff"), b', "\xef\xbf\xbf"'), (ONE, b": 1"), (CLOSE, b"}"))


class LacksTest(JsonLooseTest):
    def test_bytes_alone(self):
        self.check_lacks_at([BYTES], 0)
        self.check_lacks_at([leaf("bytes", ())], 0)

    def test_keys_do_not_count(self):
        self.check_lacks_at([MAP, key("a"), BYTES], 1)
        self.check_lacks_at([MAP, key("a"), ONE, key("b"), ONE, key("c"), BYTES], 3)

    def test_lists_and_maps_count(self):
        self.check_lacks_at([LIST, BYTES], 1)
        self.check_lacks_at([LIST, LIST, CLOSE, MAP, CLOSE, BYTES], 3)
        self.check_lacks_at([LIST, LIST, ONE, LIST, CLOSE, CLOSE, ONE, BYTES], 5)
        self.check_lacks_at([MAP, key("b"), MAP, key("a"), LIST, ONE, ONE, CLOSE, CLOSE, key("a"), LIST, BYTES], 6)

    def test_the_order_of_the_entries_counts(self):
        self.check_lacks_at([MAP, key("b"), ONE, key("a"), BYTES], 2)
        self.check_lacks_at([MAP, key("a"), BYTES], 1)

    def test_deep_and_long(self):
        self.check_lacks(samples.nested(24, ("bytes", ())))
        self.check_lacks_at([LIST] + [ONE] * 5000 + [BYTES], 5001)

    def test_random_values(self):
        self.check_random_lacks(111, 400)


class WholeTest(JsonLooseTest):
    def test_random_values(self):
        self.check_random_values(112, 600)

    def test_depth(self):
        self.check_depths()

    def test_small_values(self):
        for value in samples.LEAVES[:6] + samples.LEAVES[8:] + samples.SMALL_TREES:
            self.check_value(value)

    def test_long(self):
        self.check_value(("list", (("number", 1, 0), NULL) * 1500))
        self.check_value(("map", tuple(((at // 100, at), NULL) for at in range(2000))))

    def test_side_by_side(self):
        self.check_side_by_side(113, 100)

    def test_returned_lists(self):
        for value in samples.LEAVES[:6] + samples.LEAVES[8:] + samples.SMALL_TREES + samples.random_values(
                114, 50, "json"):
            self.check_returned_lists(value)
        for value in samples.LEAVES[:6] + samples.LEAVES[8:]:
            self.check_same_events_again(value)


if __name__ == "__main__":
    unittest.main()
