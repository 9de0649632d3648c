import unittest

from formsalike.checks import is_value
from tests import samples

NULL = ("null",)


class IsValueTest(unittest.TestCase):
    def accept(self, *things):
        for thing in things:
            self.assertIs(is_value(thing), True, repr(thing)[:200])

    def refuse(self, *things):
        """The things are no values, and nothing that holds one of them is a value."""
        for thing in things:
            self.assertIs(is_value(thing), False, repr(thing)[:200])
            self.assertIs(is_value(("list", (NULL, thing))), False, repr(thing)[:200])
            self.assertIs(is_value(("list", (thing, NULL))), False, repr(thing)[:200])
            self.assertIs(is_value(("map", (((97,), thing),))), False, repr(thing)[:200])

    def test_every_kind(self):
        self.accept(*samples.LEAVES)
        self.accept(*samples.SMALL_TREES)
        self.accept(*samples.random_values(6, 200))

    def test_no_tuple_with_a_name(self):
        self.refuse(None, True, False, 0, 1, -5, "", "null", "text", (), [], [()], ((),), (None,), (0,), (True,))
        self.refuse((("null",),), (["null"],), (("list", ()), ()))

    def test_wrong_names(self):
        self.refuse(("",), ("nil",), ("Null",), ("nul",), ("true",), ("truth ", True), ("tuple", ()), ("dict", ()))
        self.refuse(("string", (97,)), ("integer", 1, 0), ("key", (97,)), ("leaf", NULL))

    def test_wrong_lengths(self):
        self.refuse(("null", None), ("null", ()), ("truth",), ("truth", True, True), ("number",), ("number", 1))
        self.refuse(("number", 1, 0, 0), ("bytes",), ("bytes", (), ()), ("text",), ("text", (), ()), ("list",))
        self.refuse(("list", (), ()), ("map",), ("map", (), ()))

    def test_names_in_place_of_contents(self):
        for kind in ("truth", "bytes", "text", "list", "map"):
            self.refuse((kind, "null"), (kind, "list"), (kind, kind), (kind, NULL), (kind, 0))
        self.refuse(("null", "null"), ("number", "null"), ("number", 1, "null"), ("number", "null", 0))

    def test_lists_in_place_of_tuples(self):
        self.refuse(["null"], ["truth", True], ["number", 1, 0], ["list", ()], ["map", ()])
        self.refuse(("bytes", []), ("bytes", [1]), ("text", []), ("text", [97]), ("list", []), ("list", [NULL]))
        self.refuse(("map", []), ("map", [((97,), NULL)]), ("map", ([(97,), NULL],)), ("map", (([97], NULL),)))
        self.refuse(("list", (["null"],)), ("map", (((97,), ["null"]),)))

    def test_truths(self):
        self.accept(("truth", True), ("truth", False))
        self.refuse(("truth", 1), ("truth", 0), ("truth", None), ("truth", "True"), ("truth", ()))

    def test_numbers_are_integers(self):
        self.refuse(("number", True, 0), ("number", False, 0), ("number", 1, True), ("number", 1, False))
        self.refuse(("number", 0, False), ("number", "1", 0), ("number", 1, "0"), ("number", None, 0))
        self.refuse(("number", 1, None), ("number", (1,), 0), ("number", 1, (0,)), ("number", [], 0))

    def test_numbers_are_in_normal_form(self):
        self.accept(("number", 0, 0), ("number", 1, 0), ("number", -1, 5), ("number", 11, -5), ("number", -99, 0))
        self.accept(("number", 10 ** 1999 + 1, 10 ** 999), ("number", -(10 ** 1999) - 1, -(10 ** 999)))
        self.refuse(("number", 10, 0), ("number", -10, 0), ("number", 20, -3), ("number", 10 ** 1999, 0))
        self.refuse(("number", 0, 1), ("number", 0, -1), ("number", 0, 10 ** 999))

    def test_octets(self):
        self.accept(("bytes", tuple(range(256))))
        for wrong in (256, -1, 1000, True, False, None, "a", (1,), []):
            self.refuse(("bytes", (wrong,)), ("bytes", (0, 255, wrong)), ("bytes", (wrong, 0)))
        self.refuse(("bytes", "abc"), ("bytes", 5), ("bytes", None))

    def test_code_points(self):
        points = (0, 9, 127, 128, 0xD7FF, 0xE000, 0xFFFF, 0x10000, 0x10FFFF)
        self.accept(("text", points), ("map", ((points, NULL),)))
        for wrong in (-1, 0xD800, 0xDBFF, 0xDC00, 0xDFFF, 0x110000, True, False, None, "a", (1,), []):
            self.refuse(("text", (wrong,)), ("text", (97, wrong)), ("text", (wrong, 97)))
            self.refuse(("map", (((wrong,), NULL),)), ("map", (((97, wrong), NULL),)))
        self.refuse(("text", "abc"), ("text", 5), ("text", None))

    def test_lists_hold_values(self):
        self.refuse(("list", NULL), ("list", (1,)), ("list", ("null",)), ("list", (None,)), ("list", "ab"))
        self.refuse(("list", 3), ("list", None), ("list", ((),)))

    def test_maps_hold_entries(self):
        self.refuse(("map", "ab"), ("map", 1), ("map", None), ("map", (NULL,)), ("map", (None,)), ("map", ((),)))
        self.refuse(("map", (((97,),),)), ("map", (((97,), NULL, NULL),)), ("map", ((97, NULL),)))
        self.refuse(("map", (("a", NULL),)), ("map", ((None, NULL),)), ("map", (((97,), 1),)), ("map", (1, 2)))

    def test_keys_ascend_strictly(self):
        def with_keys(*keys):
            return ("map", tuple((key, NULL) for key in keys))

        self.accept(with_keys((), (97,)), with_keys((97,), (97, 0)), with_keys((97, 99), (98,)))
        self.accept(with_keys((0xE000,), (0x10000,)), with_keys((1,), (2,), (3,)))
        self.refuse(with_keys((97,), (97,)), with_keys((), ()), with_keys((97,), ()), with_keys((98,), (97, 99)))
        self.refuse(with_keys((1,), (3,), (2,)), with_keys((1,), (2,), (2,)), with_keys((2,), (1,), (3,)))
        self.refuse(with_keys((0x10000,), (0xE000,)))

    def test_depth(self):
        for levels in range(0, 25):
            self.accept(samples.nested(levels, NULL))
        for levels in range(1, 25):
            self.accept(samples.nested(levels))
        self.accept(("list", (NULL, samples.nested(23), NULL)))
        self.accept(("map", (((1,), samples.nested(23, NULL)), ((2,), samples.nested(22)))))
        for levels in (25, 26, 40, 75, 300):
            self.refuse(samples.nested(levels), samples.nested(levels, NULL))
        self.refuse(("list", (NULL, samples.nested(24), NULL)))

    def test_wrong_things_at_the_deepest_place(self):
        for levels in (1, 5, 24):
            self.refuse(samples.nested(levels, 1), samples.nested(levels, ("null", 1)))

    def test_nested_without_being_values(self):
        tuples, lists, mixed = (), [], None
        for level in range(299):
            tuples = (tuples,)
            lists = [lists]
            mixed = ("list", [mixed]) if level % 2 else ["list", (mixed,)]
        for thing in (tuples, lists, mixed):
            self.assertIs(is_value(thing), False)
            for kind in ("truth", "bytes", "text", "list", "map"):
                self.assertIs(is_value((kind, thing)), False)
            self.assertIs(is_value(("number", thing, 0)), False)

    def test_wide(self):
        self.accept(("list", (NULL,) * 100000), ("bytes", (7,) * 200000))


if __name__ == "__main__":
    unittest.main()
