"""What the tests of all writers of canonical texts have in common."""

import random
import unittest

from formsalike.errors import Unreadable, Unwritable
from tests import samples
from tests.writeoracles import ORACLES, first_lacking


class WriteTest(unittest.TestCase):
    """The tests of a writer, which its subclass gives as `write` and `lacks`, with the oracle that reads the form."""

    oracle = None

    def write(self, value):
        raise NotImplementedError

    def lacks(self, value):
        raise NotImplementedError

    def check_written(self, value, octets):
        written = self.write(value)
        self.assertIsInstance(written, list)
        self.assertEqual(bytes(written), octets)
        self.assertIsNone(self.lacks(value))
        self.assertIsNone(self.oracle.scan(octets)[1])

    def check_lacks(self, value, index):
        self.assertEqual(self.lacks(value), index)
        with self.assertRaises(Unwritable) as caught:
            self.write(value)
        self.assertEqual(caught.exception.what, index)

    def check_lacking(self, value):
        """A value that the form lacks is found alone, and in lists and maps by its index in preorder."""
        one, key = ("bytes", (1,)), (107,)
        self.check_lacks(value, 0)
        self.check_lacks(("list", (value,)), 1)
        self.check_lacks(("list", (one, value)), 2)
        self.check_lacks(("list", (("list", (one, one)), ("list", ()), value, one)), 5)
        self.check_lacks(("map", ((key, value),)), 1)
        self.check_lacks(("map", (((), one), (key, ("map", (((), one), (key, value)))))), 4)
        self.check_lacks(("list", (("map", ((key, ("list", (one, value))),)), value)), 4)
        self.check_lacks(("list", (value, value)), 1)
        self.check_lacks(samples.nested(24, value), 24)

    def check_canonical(self, form, value):
        """The octets, or the index of the first value that is lacking, are those that an oracle tells."""
        index = first_lacking(form, value)
        if index is None:
            self.check_written(value, ORACLES[form].canonical(value))
        else:
            self.check_lacks(value, index)

    def check_random_canonical(self, form, seed, many):
        """Values at random, of the kinds that the form has and of all kinds, are written as the oracle tells."""
        for value in samples.random_values(seed, many, form) + samples.random_values(seed + 1, many):
            self.check_canonical(form, value)

    def check_read_again(self, read, seed, many, form, pool):
        """What is written of what was read is read as the same value, and written again as it is."""
        chance = random.Random(seed)
        for value in samples.random_values(seed, many, form):
            octets = self.oracle.random_text(value, chance)
            for text in (octets, samples.spoiled(octets, chance, pool), samples.spoiled(octets, chance, pool)):
                try:
                    found = read(list(text))
                except Unreadable:
                    continue
                self.assertTrue(text is not octets or found == value)
                written = self.write(found)
                self.assertEqual(read(written), found)
                self.assertEqual(self.write(read(written)), written)

    def check_random_values(self, form, seed, many):
        """Values that the form has are written as texts whose events build them again."""
        for value in samples.random_values(seed, many, form):
            self.assertIsNone(self.lacks(value))
            found, place = self.oracle.scan(self.write(value))
            self.assertIsNone(place)
            events = [event for row in found for event in row]
            self.assertEqual(value_of(events), value)

    def check_returned_list(self, value):
        """The list that was returned may be changed without any effect on the value or on what is written later."""
        copied = copy_of(value)
        written = self.write(value)
        kept = list(written)
        written[0] = "changed"
        written.append("changed")
        again = self.write(value)
        self.assertEqual(again, kept)
        again.clear()
        self.assertEqual(self.write(value), kept)
        self.assertEqual(value, copied)

    def check_depths(self, form):
        chance = random.Random(24)
        for levels in range(1, 25):
            for inner in (None, samples.random_leaf(chance, form)):
                value = samples.nested(levels, inner, "map" in samples.KINDS[form])
                found, place = self.oracle.scan(self.write(value))
                self.assertIsNone(place)
                self.assertEqual(value_of([event for row in found for event in row]), value)


def value_of(events):
    """The value that the events build, the entries of maps in ascending order."""
    return _value_of(list(reversed(events)))


def _value_of(left):
    event = left.pop()
    if event[0] == "leaf":
        return event[1]
    parts = []
    while left[-1] != ("close",):
        if event[1] == "map":
            key = left.pop()[1]
            parts.append((key, _value_of(left)))
        else:
            parts.append(_value_of(left))
    left.pop()
    return (event[1], tuple(parts if event[1] == "list" else sorted(parts, key=lambda entry: entry[0])))


def copy_of(thing):
    return tuple(map(copy_of, thing)) if isinstance(thing, tuple) else thing
