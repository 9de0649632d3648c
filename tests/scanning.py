"""What the tests of all scanners and readers have in common."""

import random
import unittest

from formsalike.checks import is_value
from formsalike.errors import AlikeError, Unreadable
from formsalike.events import Builder
from tests import samples

CLOSE = ("close",)
LIST = ("open", "list")
MAP = ("open", "map")


def leaf(*value):
    return ("leaf", value)


def key(string):
    return ("key", tuple(map(ord, string)))


def scan(scanner, octets):
    """The lists of events octet by octet and with the end, and the place that fails, or None."""
    found = []
    try:
        for octet in octets:
            found.append(scanner.step(octet))
        found.append(scanner.end())
    except Unreadable as error:
        return found, error.what
    return found, None


def built(found):
    builder = Builder()
    for events in found:
        for event in events:
            builder.take(event)
    assert builder.is_done
    return builder.value


class ScanTest(unittest.TestCase):
    """The tests of a scanner and of the reader of its form.

    Each text is given to an oracle, too, which must tell the same events and place, and to the reader, which must
    give the value that the events build, or refuse the same place.
    """

    scanner_class = None
    reader = None
    oracle = None

    def scan(self, octets):
        result = scan(self.scanner_class(), octets)
        self.assertEqual(result, self.oracle.scan(octets), octets)
        self.check_reader(octets, *result)
        return result

    def check_reader(self, octets, found, place):
        row = list(octets)
        if place is None:
            value = self.reader(row)
            self.assertEqual(value, built(found), octets)
            self.assertTrue(is_value(value), octets)
        else:
            with self.assertRaises(Unreadable) as caught:
                self.reader(row)
            self.assertEqual(caught.exception.what, place, octets)
        self.assertEqual(row, list(octets))

    def value_of(self, octets):
        found, place = self.scan(octets)
        self.assertIsNone(place, octets)
        return built(found)

    def check_value(self, octets, value):
        self.assertEqual(self.value_of(octets), value, octets)

    def check_events(self, octets, wanted):
        """The events by the index of their octet, the end counted."""
        found, place = self.scan(octets)
        self.assertIsNone(place, octets)
        self.assertEqual(len(found), len(octets) + 1)
        for events in found:
            self.assertIsInstance(events, list)
        self.assertEqual({at: events for at, events in enumerate(found) if events}, wanted)

    def check_taken(self, octets):
        self.assertIsNone(self.scan(octets)[1], octets)

    def check_fails(self, octets, place, wanted=None):
        """The octet at the place fails, and no octet before it does; perhaps the events before it, too."""
        found, failed = self.scan(octets)
        self.assertEqual(failed, place, octets)
        self.assertEqual(len(found), place)
        if wanted is not None:
            self.assertEqual({at: events for at, events in enumerate(found) if events}, wanted)
        scanner = self.scanner_class()
        for octet in octets[:place]:
            scanner.step(octet)
        with self.assertRaises(AlikeError):
            scanner.step(octets[place])

    def check_ends_too_early(self, octets, wanted=None):
        found, failed = self.scan(octets)
        self.assertEqual(failed, len(octets), octets)
        if wanted is not None:
            self.assertEqual({at: events for at, events in enumerate(found) if events}, wanted)
        scanner = self.scanner_class()
        for octet in octets:
            scanner.step(octet)
        with self.assertRaises(Unreadable) as caught:
            scanner.end()
        self.assertEqual(caught.exception.what, len(octets), octets)

    def check_beginnings(self, octets):
        """The text is taken, and no beginning of it is a text."""
        self.check_taken(octets)
        for many in range(len(octets)):
            self.check_ends_too_early(octets[:many])

    def check_can_stand(self, before, allowed):
        """Of all octets, just these can stand behind the others."""
        for octet in range(256):
            octets = before + bytes([octet])
            place = self.scan(octets)[1]
            if octet in allowed:
                self.assertIn(place, (None, len(octets)), octets)
            else:
                self.assertEqual(place, len(before), octets)

    def check_random_texts(self, form, seed, many):
        """Texts of values at random build these values."""
        chance = random.Random(seed)
        for value in samples.random_values(seed, many, form):
            octets = self.oracle.random_text(value, chance)
            self.check_value(octets, value)

    def check_spoiled_texts(self, form, seed, many, pool):
        """Texts with faults: the oracle tells whether they still are texts, or which octet fails."""
        chance = random.Random(seed)
        for value in samples.random_values(seed, many, form):
            octets = self.oracle.random_text(value, chance)
            self.scan(samples.spoiled(octets, chance, pool))
            self.scan(octets[:chance.randint(0, len(octets))])

    def check_octets_at_random(self, seed, many, beginnings, pools):
        """Short rows of octets from some pools behind some beginnings."""
        chance = random.Random(seed)
        for pool in pools:
            for _ in range(many):
                octets = bytes(chance.choice(pool) for _ in range(chance.randint(0, 12)))
                self.scan(chance.choice(beginnings) + octets)

    def check_side_by_side(self, ones, twos):
        """Two scanners that take their octets by turns do not touch each other."""
        first, second = self.scanner_class(), self.scanner_class()
        found_first, found_second = [], []
        for at in range(max(len(ones), len(twos))):
            if at < len(ones):
                found_first.append(first.step(ones[at]))
            if at < len(twos):
                found_second.append(second.step(twos[at]))
        found_first.append(first.end())
        found_second.append(second.end())
        self.assertEqual((found_first, None), self.scan(ones))
        self.assertEqual((found_second, None), self.scan(twos))

    def check_returned_lists(self, octets):
        """Returned lists are new ones, stay as they were, and the caller may change them."""
        scanner = self.scanner_class()
        kept, copies = [], []
        for octet in octets:
            events = scanner.step(octet)
            copies.append(list(events))
            events.append("changed")
            kept.append(events)
        events = scanner.end()
        copies.append(list(events))
        events.append("changed")
        kept.append(events)
        self.assertEqual((copies, None), self.scan(octets))
        self.assertEqual(kept, [events + ["changed"] for events in copies])
        self.assertEqual(len({id(events) for events in kept}), len(kept))

    def check_kinds_of_events(self, octets):
        """Events are tuples of tuples, integers, strings and truths."""
        for events in self.scan(octets)[0]:
            for event in events:
                self.assertTrue(is_plain(event), event)

    def check_levels(self, form, openings):
        """24 levels are taken; the opening of a 25th one fails at its place in the octets that open it."""
        for seed in range(4):
            for levels in range(25):
                inner = samples.random_leaf(random.Random(seed), form) if seed else None
                if levels or inner:
                    value = samples.nested(levels, inner, "map" in samples.KINDS[form])
                    octets = self.oracle.random_text(value, random.Random(levels))
                    self.check_value(octets, value)
        for opening, place in openings:
            self.check_ends_too_early(opening * 24)
            for deeper, place in openings:
                self.check_fails(opening * 24 + deeper, len(opening) * 24 + place)


def is_plain(thing):
    if isinstance(thing, tuple):
        return all(map(is_plain, thing))
    return isinstance(thing, (int, str))
