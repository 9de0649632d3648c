"""What the tests of all loose writers have in common."""

import random
import unittest

from formsalike.errors import Unwritable
from formsalike.events import events_of
from tests import samples
from tests.writeoracles import ORACLES, is_lacking, preorder

LIST = ("open", "list")
MAP = ("open", "map")
CLOSE = ("close",)


def leaf(*value):
    return ("leaf", value)


def key(string):
    return ("key", tuple(map(ord, string)))


def reordered(value, chance):
    """The value with the entries of its maps in any order, and so no longer in normal form."""
    if value[0] == "list":
        return ("list", tuple(reordered(item, chance) for item in value[1]))
    if value[0] == "map":
        entries = [(points, reordered(part, chance)) for points, part in value[1]]
        chance.shuffle(entries)
        return ("map", tuple(entries))
    return value


class LooseTest(unittest.TestCase):
    """The tests of a loose writer; what it writes is read again, and an oracle must write the same octets."""

    loose_class = None
    reader = None
    form = None

    def check_pairs(self, *pairs):
        """The octets of each event by itself; the events are those of a whole value."""
        writer = self.loose_class()
        for at, (event, octets) in enumerate(pairs):
            written = writer.take(event)
            self.assertIsInstance(written, list)
            self.assertEqual(bytes(written), octets, (at, event))

    def check_value(self, value, chance=None):
        """The octets are those of the oracle, and all of them together are read as the value."""
        pairs = ORACLES[self.form].pairs(value, chance)
        self.check_pairs(*pairs)
        octets = b"".join(octets for _, octets in pairs)
        self.assertEqual(self.reader(list(octets)), value)

    def check_leaf(self, value, octets):
        """A leaf alone, and first and second in lists and maps."""
        self.check_pairs((("leaf", value), octets))
        for outer in (value, ("list", (value, value)), ("map", (((), value), ((98,), ("list", (value,))))),
                      ("list", (("list", ()), value, ("map", ()), value))):
            if first_of(self.form, outer) is None:
                self.check_value(outer)

    def check_lacks_at(self, events, index):
        """Only the last event is refused, with the index."""
        writer = self.loose_class()
        for event in events[:-1]:
            writer.take(event)
        with self.assertRaises(Unwritable) as caught:
            writer.take(events[-1])
        self.assertEqual(caught.exception.what, index, events)

    def check_lacks(self, value, chance=None):
        """The value is refused at the first event of what the form lacks, with the number of values before it."""
        writer = self.loose_class()
        begun = 0
        for event in events_of(value if chance is None else reordered(value, chance)):
            first = event[1] if event[0] == "leaf" else (event[1], ()) if event[0] == "open" else None
            if first is not None and is_lacking(self.form, first):
                with self.assertRaises(Unwritable) as caught:
                    writer.take(event)
                self.assertEqual(caught.exception.what, begun)
                return
            writer.take(event)
            begun += first is not None
        self.fail("nothing is lacking")

    def check_random_values(self, seed, many):
        chance = random.Random(seed)
        for value in samples.random_values(seed, many, self.form):
            self.check_value(value)
            self.check_value(value, chance)

    def check_random_lacks(self, seed, many):
        """Values of all kinds: those that the form lacks are refused at their first events."""
        chance = random.Random(seed)
        for value in samples.random_values(seed, many):
            if any(is_lacking(self.form, found) for found in preorder(value)):
                self.check_lacks(value)
                self.check_lacks(value, chance)

    def check_depths(self):
        chance = random.Random(24)
        for levels in range(1, 25):
            for inner in (None, samples.random_leaf(chance, self.form)):
                self.check_value(samples.nested(levels, inner, "map" in samples.KINDS[self.form]))

    def check_side_by_side(self, seed, many):
        """Two writers that take their events by turns do not touch each other."""
        values = samples.random_values(seed, 2 * many, self.form)
        for one, two in zip(values[:many], values[many:]):
            first, second = self.loose_class(), self.loose_class()
            ones, twos = ORACLES[self.form].pairs(one), ORACLES[self.form].pairs(two)
            for at in range(max(len(ones), len(twos))):
                for writer, pairs in ((first, ones), (second, twos)):
                    if at < len(pairs):
                        self.assertEqual(bytes(writer.take(pairs[at][0])), pairs[at][1])

    def check_returned_lists(self, value):
        """Returned lists are new ones, stay as they were, and the caller may change them."""
        pairs = ORACLES[self.form].pairs(value)
        writer = self.loose_class()
        kept = []
        for event, octets in pairs:
            written = writer.take(event)
            self.assertEqual(bytes(written), octets)
            written.insert(0, "changed")
            kept.append(written)
        self.assertEqual(kept, [["changed"] + list(octets) for _, octets in pairs])
        for written in kept:
            written.clear()
        self.check_value(value)

    def check_same_events_again(self, value):
        """A list that was returned for an event may be changed before the same event is taken again."""
        writer = self.loose_class()
        writer.take(LIST)
        writer.take(("leaf", value))
        second = writer.take(("leaf", value))
        copied = list(second)
        second.clear()
        self.assertEqual(writer.take(("leaf", value)), copied)


def first_of(form, value):
    """The first value in preorder that the form lacks, or None."""
    return next((found for found in preorder(value) if is_lacking(form, found)), None)
