import random
import unittest

from formsalike.events import Builder, events_of
from formsalike.values import map_of
from tests import samples

NULL = ("null",)


def built(events):
    builder = Builder()
    for event in events:
        builder.take(event)
    return builder


def shuffled(value, chance):
    """The events of a value, the entries of its maps in any order."""
    if value[0] == "list":
        inside = [event for item in value[1] for event in shuffled(item, chance)]
        return [("open", "list")] + inside + [("close",)]
    if value[0] == "map":
        entries = list(value[1])
        chance.shuffle(entries)
        inside = [event for key, part in entries for event in [("key", key)] + shuffled(part, chance)]
        return [("open", "map")] + inside + [("close",)]
    return [("leaf", value)]


class EventsOfTest(unittest.TestCase):
    def test_leaves(self):
        for leaf in samples.LEAVES:
            self.assertEqual(events_of(leaf), [("leaf", leaf)])

    def test_empty(self):
        self.assertEqual(events_of(("list", ())), [("open", "list"), ("close",)])
        self.assertEqual(events_of(("map", ())), [("open", "map"), ("close",)])

    def test_nested(self):
        inner = ("map", (((), NULL), ((97,), ("list", (("truth", True),))), ((98,), ("map", ()))))
        value = ("list", (("number", 5, 0), inner, ("bytes", (1, 2))))
        self.assertEqual(events_of(value), [
            ("open", "list"),
            ("leaf", ("number", 5, 0)),
            ("open", "map"),
            ("key", ()),
            ("leaf", NULL),
            ("key", (97,)),
            ("open", "list"),
            ("leaf", ("truth", True)),
            ("close",),
            ("key", (98,)),
            ("open", "map"),
            ("close",),
            ("close",),
            ("leaf", ("bytes", (1, 2))),
            ("close",),
        ])

    def test_keys_ascend(self):
        value = map_of([((0x10000,), NULL), ((0xE000,), NULL), ((97, 97), NULL), ((97,), NULL)])
        keys = [event[1] for event in events_of(value) if event[0] == "key"]
        self.assertEqual(keys, [(97,), (97, 97), (0xE000,), (0x10000,)])

    def test_deep(self):
        for levels in (1, 2, 24, 75):
            events = events_of(samples.nested(levels))
            self.assertEqual(len([event for event in events if event[0] == "open"]), levels)
            self.assertEqual(len([event for event in events if event == ("close",)]), levels)

    def test_returns_a_new_list(self):
        value = ("list", (NULL,))
        events = events_of(value)
        events.clear()
        self.assertEqual(events_of(value), [("open", "list"), ("leaf", NULL), ("close",)])
        self.assertEqual(value, ("list", (NULL,)))


class BuilderTest(unittest.TestCase):
    def check(self, events, value):
        """Nothing is done before the last event, and the value behind it."""
        builder = Builder()
        for event in events:
            self.assertIs(builder.is_done, False)
            self.assertIsNone(builder.value)
            builder.take(event)
        self.assertIs(builder.is_done, True)
        self.assertEqual(builder.value, value)

    def test_without_events(self):
        self.assertIs(Builder().is_done, False)
        self.assertIsNone(Builder().value)

    def test_every_kind(self):
        for value in samples.LEAVES + samples.SMALL_TREES:
            self.check(events_of(value), value)

    def test_deep(self):
        for levels in range(1, 25):
            for value in (samples.nested(levels), samples.nested(levels, NULL)):
                self.check(events_of(value), value)

    def test_a_map_in_a_map_keeps_the_outer_key(self):
        events = [("open", "map"), ("key", (98,)), ("open", "map"), ("key", (1,)), ("leaf", NULL), ("close",),
                  ("key", (97,)), ("open", "list"), ("close",), ("close",)]
        inner = ("map", (((1,), NULL),))
        self.check(events, ("map", (((97,), ("list", ())), ((98,), inner))))

    def test_entries_in_any_order_end_in_normal_form(self):
        chance = random.Random(13)
        for value in samples.random_values(14, 300) + samples.SMALL_TREES:
            self.check(events_of(value), value)
            for _ in range(3):
                self.check(shuffled(value, chance), value)

    def test_the_value_is_made_of_tuples(self):
        events = [("open", "list"), ("open", "map"), ("key", (97,)), ("leaf", NULL), ("close",), ("close",)]
        value = built(events).value
        self.assertIsInstance(value[1], tuple)
        self.assertIsInstance(value[1][0][1], tuple)
        self.assertIsInstance(value[1][0][1][0], tuple)

    def test_two_side_by_side(self):
        first, second = Builder(), Builder()
        ones = [("open", "list"), ("leaf", NULL), ("close",)]
        twos = [("open", "map"), ("key", (97,)), ("leaf", ("truth", True)), ("close",)]
        for one, two in zip(ones, twos):
            first.take(one)
            second.take(two)
        self.assertEqual((first.is_done, first.value), (True, ("list", (NULL,))))
        self.assertEqual((second.is_done, second.value), (False, None))
        second.take(twos[-1])
        self.assertEqual(second.value, ("map", (((97,), ("truth", True)),)))
        self.assertEqual(first.value, ("list", (NULL,)))

    def test_events_stay(self):
        events = shuffled(samples.SMALL_TREES[-1], random.Random(15))
        before = list(events)
        built(events)
        self.assertEqual(events, before)

    def test_wide(self):
        value = ("list", (NULL,) * 50000)
        self.assertEqual(built(events_of(value)).value, value)


if __name__ == "__main__":
    unittest.main()
