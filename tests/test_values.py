import copy
import random
import unittest

from formsalike.errors import Doubled
from formsalike.values import FALSE, NULL, TRUE, depth, list_of, map_of, number, text, walk
from tests import samples


class MakersTest(unittest.TestCase):
    def test_constants(self):
        self.assertEqual(NULL, ("null",))
        self.assertEqual(TRUE, ("truth", True))
        self.assertEqual(FALSE, ("truth", False))
        self.assertIs(TRUE[1], True)
        self.assertIs(FALSE[1], False)

    def test_number(self):
        self.assertEqual(number(15), ("number", 15, 0))
        self.assertEqual(number(1500, -2), ("number", 15, 0))
        self.assertEqual(number(1500), ("number", 15, 2))
        self.assertEqual(number(-20, 5), ("number", -2, 6))
        self.assertEqual(number(0, 12), ("number", 0, 0))
        self.assertEqual(number(0), ("number", 0, 0))
        self.assertEqual(number(m=30, e=1), ("number", 3, 2))
        self.assertEqual(number(10 ** 1999, -(10 ** 999)), ("number", 1, 1999 - 10 ** 999))

    def test_text(self):
        self.assertEqual(text(""), ("text", ()))
        self.assertEqual(text("aZ~ \n"), ("text", (97, 90, 126, 32, 10)))
        whole = "".join(chr(point) for point in range(128))
        self.assertEqual(text(whole), ("text", tuple(range(128))))

    def test_list_of(self):
        self.assertEqual(list_of([]), ("list", ()))
        self.assertEqual(list_of(()), ("list", ()))
        self.assertEqual(list_of([NULL, TRUE]), ("list", (NULL, TRUE)))
        self.assertEqual(list_of((TRUE, NULL)), ("list", (TRUE, NULL)))

    def test_list_of_leaves_its_argument(self):
        items = [TRUE, NULL]
        made = list_of(items)
        self.assertEqual(items, [TRUE, NULL])
        items.append(FALSE)
        self.assertEqual(made, ("list", (TRUE, NULL)))


class MapOfTest(unittest.TestCase):
    def test_empty(self):
        self.assertEqual(map_of([]), ("map", ()))
        self.assertEqual(map_of(()), ("map", ()))

    def test_example_of_the_document(self):
        made = map_of([((98,), number(20)), ((97, 97), text("ok")), ((97,), list_of([]))])
        wanted = (((97,), ("list", ())), ((97, 97), ("text", (111, 107))), ((98,), ("number", 2, 1)))
        self.assertEqual(made, ("map", wanted))

    def test_entries_in_any_order(self):
        keys = [(), (0,), (97,), (97, 97), (97, 98), (98,), (0xE000,), (0xFFFF,), (0x10000,), (0x10FFFF, 0)]
        wanted = ("map", tuple((key, number(at)) for at, key in enumerate(keys)))
        chance = random.Random(4)
        for _ in range(50):
            entries = [(key, number(at)) for at, key in enumerate(keys)]
            chance.shuffle(entries)
            self.assertEqual(map_of(entries), wanted)
            self.assertEqual(map_of(tuple(entries)), wanted)

    def test_keys_as_lists(self):
        self.assertEqual(map_of([([98], NULL), ((97,), TRUE)]), ("map", (((97,), TRUE), ((98,), NULL))))

    def test_same_values_do_not_matter(self):
        self.assertEqual(map_of([((2,), NULL), ((1,), NULL)]), ("map", (((1,), NULL), ((2,), NULL))))

    def test_doubled_names_the_first_entry_with_an_earlier_key(self):
        entries = [((98,), NULL), ((97,), NULL), ((99,), TRUE), ((97,), TRUE), ((98,), NULL)]
        with self.assertRaises(Doubled) as caught:
            map_of(entries)
        self.assertEqual(caught.exception.what, (97,))
        self.assertIsInstance(caught.exception.what, tuple)

    def test_doubled_as_list_and_tuple(self):
        for first, second in [((97,), [97]), ([97], (97,)), ([97], [97]), ([], ())]:
            with self.assertRaises(Doubled) as caught:
                map_of(((first, NULL), (second, NULL)))
            self.assertEqual(caught.exception.what, tuple(first))
            self.assertIsInstance(caught.exception.what, tuple)

    def test_leaves_its_argument(self):
        entries = [([98], NULL), ((97,), TRUE)]
        before = copy.deepcopy(entries)
        made = map_of(entries)
        self.assertEqual(entries, before)
        entries[0][0].append(99)
        entries.pop()
        self.assertEqual(made, ("map", (((97,), TRUE), ((98,), NULL))))


def preorder(value):
    found = [value]
    if value[0] == "list":
        for item in value[1]:
            found += preorder(item)
    elif value[0] == "map":
        for _, part in value[1]:
            found += preorder(part)
    return found


class WalkTest(unittest.TestCase):
    def test_leaves(self):
        for leaf in samples.LEAVES:
            self.assertEqual(list(walk(leaf)), [leaf])

    def test_parts_stand_behind_in_order(self):
        inner = list_of([number(2), list_of([]), number(3)])
        entries = map_of([((2,), number(5)), ((1,), list_of([number(4)]))])
        whole = list_of([number(1), inner, entries, NULL])
        wanted = [whole, number(1), inner, number(2), list_of([]), number(3), entries, list_of([number(4)]),
                  number(4), number(5), NULL]
        self.assertEqual(list(walk(whole)), wanted)

    def test_is_a_generator(self):
        walking = walk(list_of([NULL, TRUE]))
        self.assertEqual(next(walking), list_of([NULL, TRUE]))
        self.assertEqual(next(walking), NULL)
        self.assertEqual(list(walking), [TRUE])

    def test_at_random(self):
        for value in samples.random_values(5, 100):
            self.assertEqual(list(walk(value)), preorder(value))

    def test_deep_and_wide(self):
        deep = samples.nested(75, NULL)
        self.assertEqual(len(list(walk(deep))), 76)
        wide = list_of([NULL] * 100000)
        self.assertEqual(len(list(walk(wide))), 100001)


class DepthTest(unittest.TestCase):
    def test_leaves(self):
        for leaf in samples.LEAVES:
            self.assertEqual(depth(leaf), 0)

    def test_empty(self):
        self.assertEqual(depth(("list", ())), 1)
        self.assertEqual(depth(("map", ())), 1)

    def test_greatest_depth_counts(self):
        shallow = list_of([NULL])
        deep = map_of([((1,), list_of([])), ((2,), NULL)])
        self.assertEqual(depth(shallow), 1)
        self.assertEqual(depth(deep), 2)
        self.assertEqual(depth(list_of([deep, shallow, NULL])), 3)
        self.assertEqual(depth(list_of([NULL, shallow, deep])), 3)
        self.assertEqual(depth(map_of([((1,), deep), ((2,), shallow)])), 3)

    def test_many_levels(self):
        for levels in list(range(1, 76)) + [300]:
            self.assertEqual(depth(samples.nested(levels)), levels)
            self.assertEqual(depth(samples.nested(levels, NULL)), levels)


if __name__ == "__main__":
    unittest.main()
