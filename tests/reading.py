"""What the tests of the readers of all forms have in common."""

import random
import unittest

from formsalike.checks import is_value
from formsalike.errors import Unreadable
from formsalike.events import Builder
from tests import samples


def outcome(read, octets):
    """What reading gives: the pair of "value" and the value, or of "place" and the place that is refused."""
    try:
        return ("value", read(octets))
    except Unreadable as error:
        return ("place", error.what)


def outcome_by_events(scanner, octets):
    """The same by a scanner whose events go to a builder; a place must lie in the step that takes its octet."""
    builder = Builder()
    at = 0
    try:
        for octet in octets:
            for event in scanner.step(octet):
                builder.take(event)
            at += 1
        for event in scanner.end():
            builder.take(event)
    except Unreadable as error:
        assert error.what == at, (octets, error.what, at)
        return ("place", error.what)
    assert builder.is_done, octets
    return ("value", builder.value)


class ReadTest(unittest.TestCase):
    """The tests of a reader; each text goes to the scanner and a builder, too, which must tell the same."""

    reader = None
    scanner_class = None
    oracle = None
    form = None

    def outcome(self, octets):
        result = outcome(self.reader, list(octets))
        self.assertEqual(result, outcome_by_events(self.scanner_class(), octets), octets)
        if result[0] == "value":
            self.assertIs(is_value(result[1]), True)
        return result

    def check_value(self, octets, *value):
        self.assertEqual(self.outcome(octets), ("value", value), octets)

    def check_fails(self, octets, place):
        """The octet at the place fails, whatever stands behind it."""
        self.assertLess(place, len(octets), octets)
        self.assertEqual(self.outcome(octets), ("place", place), octets)
        self.assertEqual(self.outcome(octets[:place + 1]), ("place", place), octets)
        self.assertEqual(self.outcome(octets[:place + 1] + b"\0\0\xff\xff()"), ("place", place), octets)

    def check_ends_too_early(self, octets):
        self.assertEqual(self.outcome(octets), ("place", len(octets)), octets)

    def check_beginnings(self, octets):
        """The text is read, and each beginning of it that is no text is refused with the number of its octets."""
        self.assertEqual(self.outcome(octets)[0], "value", octets)
        for many in range(len(octets)):
            if self.oracle.scan(octets[:many])[1] is None:
                self.assertEqual(self.outcome(octets[:many])[0], "value")
            else:
                self.check_ends_too_early(octets[:many])

    def check_rows(self, octets):
        """The octets are passed as a list or as a tuple and stay as they were."""
        row, pair = list(octets), tuple(octets)
        found = outcome(self.reader, row)
        self.assertEqual(row, list(octets))
        self.assertEqual(outcome(self.reader, pair), found)
        self.assertEqual(pair, tuple(octets))
        row.append(0)
        self.assertEqual(outcome(self.reader, pair), found)

    def check_random_texts(self, seed, many):
        """Texts of values at random are read as these values."""
        chance = random.Random(seed)
        for value in samples.random_values(seed, many, self.form):
            octets = self.oracle.random_text(value, chance)
            self.check_value(octets, *value)

    def check_spoiled_texts(self, seed, many, pool):
        """Texts with faults: the reader refuses what the oracle refuses, in the same place, and reads the others."""
        chance = random.Random(seed)
        for value in samples.random_values(seed, many, self.form):
            octets = samples.spoiled(self.oracle.random_text(value, chance), chance, pool)
            self.check_by_oracle(octets)

    def check_each_fault(self, octets, pool):
        """An octet taken out, put in, changed, doubled, or the rest cut off, in each place of a text."""
        for at in range(len(octets) + 1):
            self.check_by_oracle(octets[:at])
            self.check_by_oracle(octets[:at] + octets[at + 1:])
            for many in (1, 2, 3):
                self.check_by_oracle(octets[:at] + octets[at:at + many] * 2 + octets[at + many:])
            for octet in pool:
                one = bytes([octet])
                self.check_by_oracle(octets[:at] + one + octets[at:])
                self.check_by_oracle(octets[:at] + one + octets[at + 1:])

    def check_by_oracle(self, octets):
        word, found = self.outcome(octets)
        self.assertEqual(found if word == "place" else None, self.oracle.scan(octets)[1], octets)

    def check_depth(self, opening, closing, openings):
        """24 levels around nothing are read; a 25th one fails at the first octet of its opening."""
        octets = opening * 24 + closing * 24
        self.assertEqual(self.outcome(octets)[0], "value")
        for deeper, place in openings:
            self.check_fails(opening * 24 + deeper + closing * 25, len(opening) * 24 + place)
        chance = random.Random(24)
        for levels in range(1, 25):
            value = samples.nested(levels, samples.random_leaf(chance, self.form), "map" in samples.KINDS[self.form])
            self.check_value(self.oracle.random_text(value, chance), *value)
        value = samples.nested(25, samples.random_leaf(chance, self.form), "map" in samples.KINDS[self.form])
        for _ in range(20):
            octets = self.oracle.random_text(value, chance)
            self.assertEqual(self.outcome(octets), ("place", self.oracle.scan(octets)[1]))

    def check_nothing(self):
        for octets in ([], ()):
            self.assertEqual(outcome(self.reader, octets), ("place", 0))
