"""What holds over the whole program, point 0.2: any octets, any form, any way to cut them, any chain."""

import random
import unittest

from formsalike.chains import convert, through
from formsalike.checks import is_value
from formsalike.errors import Unreadable
from formsalike.events import Builder, events_of
from formsalike.forms import FORMS, is_canonical, lacks, loose, read, write
from formsalike.streams import Stream, carry, read_pieces
from tests import samples, wholly
from tests.test_streams import TEXTS
from tests.wholly import cut, outcome, value_by, ways_to_cut
from tests.writeoracles import first_lacking


def streamed(form, pieces):
    """What a Stream and a Builder give; a place must lie in the piece that raises it."""
    stream, builder, at = Stream(form), Builder(), 0
    for piece in pieces:
        try:
            value_by(builder, stream.feed(piece))
        except Unreadable as error:
            assert at <= error.what < at + len(piece), (form, pieces, error.what)
            return ("place", error.what)
        at += len(piece)
    try:
        value_by(builder, stream.finish())
    except Unreadable as error:
        assert error.what == at, (form, pieces, error.what)
        return ("place", error.what)
    assert builder.is_done
    return ("value", builder.value)


def random_octets(form, chance):
    return bytes(chance.choice(wholly.POOLS[form]) for _ in range(chance.randint(0, 9)))


class AnyOctetsTest(unittest.TestCase):
    def check(self, form, text, chance):
        """All ways to take the octets refuse them at one place, or give one value."""
        result = outcome(read, form, list(text))
        for pieces in ways_to_cut(text, chance):
            self.assertEqual(streamed(form, pieces), result, (form, text))
            self.assertEqual(outcome(read_pieces, form, pieces), result)
        word, found = outcome(convert, form, form, list(text))
        if result[0] == "place":
            self.assertEqual((word, found), result)
            self.assertLessEqual(result[1], len(text))
            self.assertIs(is_canonical(form, list(text)), False)
        else:
            self.assertEqual(word, "value")
            self.check_read(form, result[1], found, text)

    def check_read(self, form, value, written, text):
        """What is written of the value is its canonical text, and no other text is."""
        self.assertIs(is_value(value), True)
        self.assertIsNone(lacks(form, value))
        self.assertEqual(write(form, value), written)
        self.assertEqual(read(form, written), value)
        self.assertEqual(write(form, read(form, written)), written)
        self.assertIs(is_canonical(form, written), True)
        self.assertIs(is_canonical(form, list(text)), list(text) == written)
        for goal in FORMS:
            wanted = ("value", write(goal, value)) if lacks(goal, value) is None else ("index", lacks(goal, value))
            self.assertEqual(outcome(convert, form, goal, list(text)), wanted)

    def test_texts_ordinary_loose_and_spoilt(self):
        chance = random.Random(401)
        for form in FORMS:
            for text in wholly.texts(form, 402, 60):
                self.check(form, text, chance)

    def test_texts_of_other_forms(self):
        chance = random.Random(403)
        for source in FORMS:
            for text in wholly.texts(source, 404, 8):
                for form in FORMS:
                    self.check(form, text, chance)

    def test_octets_at_random(self):
        chance = random.Random(405)
        for form in FORMS:
            for _ in range(150):
                self.check(form, random_octets(form, chance), chance)
                self.check(form, bytes(samples.random_octets(chance, 12)), chance)

    def test_each_single_octet(self):
        chance = random.Random(406)
        for form in FORMS:
            self.check(form, b"", chance)
            for octet in range(256):
                self.check(form, bytes([octet]), chance)

    def test_each_fault_of_a_text(self):
        chance = random.Random(407)
        for form, text in TEXTS.items():
            pool = wholly.POOLS[form]
            for at in range(len(text)):
                one = bytes([chance.choice(pool)])
                for faulty in (text[:at], text[:at] + text[at + 1:], text[:at] + one + text[at:],
                               text[:at] + one + text[at + 1:], text[:at] + text[at:at + 3] * 2 + text[at + 3:]):
                    self.check(form, faulty, chance)
            for octet in pool:
                self.check(form, text + bytes([octet]), chance)


class BeginningsTest(unittest.TestCase):
    def test_no_beginning_is_refused_before_its_end(self):
        for form in FORMS:
            for text in wholly.texts(form, 411, 25):
                if outcome(read, form, list(text))[0] == "value":
                    for many in range(len(text)):
                        word, found = outcome(read, form, list(text[:many]))
                        self.assertTrue(word == "value" or found == many, (form, text, many))

    def test_what_stands_behind_a_place_changes_nothing(self):
        chance = random.Random(412)
        for form in FORMS:
            for text in wholly.texts(form, 413, 30):
                word, place = outcome(read, form, list(text))
                if word == "place" and place < len(text):
                    behind = random_octets(form, chance)
                    self.assertEqual(outcome(read, form, list(text[:place + 1])), (word, place))
                    self.assertEqual(outcome(read, form, list(text[:place + 1] + behind)), (word, place))


class ChainTest(unittest.TestCase):
    def check(self, value, names, chance):
        """Every way along the chain ends with the canonical octets of the value in the last form."""
        wanted = write(names[-1], value)
        text = list(wholly.SCAN_ORACLES[names[0]].random_text(value, chance))
        self.assertEqual(write(names[-1], through(value, names)), wanted)
        octets, loosely = text, text
        for source, goal in zip(names, names[1:]):
            octets = convert(source, goal, octets)
            loosely = sum(carry(source, goal, cut(loosely, chance)), [])
            self.assertEqual(read(goal, loosely), value)
        self.assertEqual(convert(names[-1], names[-1], octets), wanted)
        self.assertEqual(convert(names[-1], names[-1], loosely), wanted)
        pipe = Pipe(names)
        for piece in cut(text, chance):
            pipe.feed(piece)
        pipe.finish()
        self.assertEqual(write(names[-1], pipe.value()), wanted)

    def test_chains_at_random(self):
        chance = random.Random(421)
        for value in samples.random_values(422, 150) + [value for form in FORMS
                                                        for value in samples.random_values(423, 50, form)]:
            having = [form for form in FORMS if lacks(form, value) is None]
            self.check(value, [chance.choice(having) for _ in range(chance.randint(1, 5))], chance)

    def test_each_kind_of_value(self):
        chance = random.Random(424)
        for value in samples.LEAVES + samples.SMALL_TREES + [samples.nested(24), samples.nested(24, None, False)]:
            having = [form for form in FORMS if lacks(form, value) is None]
            for first in having:
                for second in having:
                    self.check(value, [first, second, first], chance)

    def test_errors_along_a_chain(self):
        """Whole or carried, a chain ends at the same form, and with the same place or index in it."""
        chance = random.Random(425)
        for form in FORMS:
            for text in wholly.texts(form, 426, 30):
                goal = chance.choice(FORMS)
                whole = outcome(convert, form, goal, list(text))
                loosely = outcome(carry, form, goal, cut(text, chance))
                if whole[0] == "value":
                    self.assertEqual(convert(goal, goal, sum(loosely[1], [])), whole[1])
                elif whole[0] == "place":
                    self.assertIn(loosely, [whole, ("index", loosely[1])])
                else:
                    self.assertEqual(loosely[0], "index")


class Pipe:
    """A text that goes through some forms event by event; only the last one builds a value."""

    def __init__(self, names):
        self.stream = Stream(names[0])
        self.builder = Builder()
        self.behind = Pipe(names[1:]) if len(names) > 1 else None
        self.writer = loose(names[1]) if len(names) > 1 else None

    def feed(self, octets):
        self.pass_on(self.stream.feed(octets))

    def finish(self):
        self.pass_on(self.stream.finish())
        if self.behind is not None:
            self.behind.finish()

    def pass_on(self, events):
        if self.behind is None:
            value_by(self.builder, events)
        else:
            for event in events:
                self.behind.feed(self.writer.take(event))

    def value(self):
        return self.builder.value if self.behind is None else self.behind.value()


class NearValuesTest(unittest.TestCase):
    def near(self, value):
        """Values that differ from the value in little."""
        kind = value[0]
        if kind == "number":
            return [value for value in (("number", value[1] + 1, value[2]), ("number", value[1], value[2] + 1),
                                        ("number", -value[1], value[2])) if is_value(value)]
        if kind in ("bytes", "text"):
            other = "text" if kind == "bytes" else "bytes"
            found = [(kind, value[1] + (0,)), (kind, value[1][:-1]), (kind, (1,) + value[1]), (other, value[1])]
            return [value for value in found if is_value(value)]
        if kind == "list":
            found = [("list", value[1] + (("list", ()),)), ("list", value[1][1:]), ("list", value[1][::-1]),
                     ("list", (value,)), ("map", ())]
            for at, item in enumerate(value[1]):
                found.extend([("list", value[1][:at] + (near,) + value[1][at + 1:]) for near in self.near(item)])
            return found
        if kind == "map":
            found = [("map", value[1][1:]), ("list", tuple(part for _, part in value[1])), ("list", (value,))]
            for at, (key, part) in enumerate(value[1]):
                found.extend([("map", value[1][:at] + ((key, near),) + value[1][at + 1:]) for near in self.near(part)])
                found.append(("map", value[1][:at] + ((key + (0,), part),) + value[1][at + 1:]))
            return [value for value in found if is_value(value)]
        return [("null",), ("truth", True), ("truth", False), ("text", ()), ("list", ())]

    def test_their_texts_differ(self):
        for form in FORMS:
            for value in samples.random_values(431, 50, form):
                texts = {}
                for near in [value] + self.near(value):
                    if lacks(form, near) is None:
                        written = tuple(write(form, near))
                        self.assertEqual(texts.setdefault(written, near), near)
                        self.assertEqual(read(form, written), near)


class EntriesTest(unittest.TestCase):
    def test_entries_in_any_order_are_one_value(self):
        chance = random.Random(441)
        for form in FORMS:
            for value in samples.random_values(442, 60, form):
                wanted = write(form, value)
                for _ in range(3):
                    text = wholly.SCAN_ORACLES[form].random_text(value, chance)
                    self.assertEqual(read(form, list(text)), value)
                    self.assertEqual(convert(form, form, list(text)), wanted)

    def test_the_events_of_a_text_build_the_value_of_the_text(self):
        for form in FORMS:
            for value in samples.random_values(443, 60, form):
                stream = Stream(form)
                events = stream.feed(tuple(b"".join(octets for _, octets in wholly.ORACLES[form].pairs(value))))
                self.assertEqual(events + stream.finish(), events_of(value))

    def test_lacking_values_are_refused_in_each_way(self):
        for form in FORMS:
            for value in samples.random_values(444, 60):
                index = first_lacking(form, value)
                if index is not None:
                    self.assertEqual(lacks(form, value), index)
                    self.assertEqual(outcome(write, form, value), ("index", index))
                    self.assertEqual(outcome(through, value, [form]), ("index", index))
                    self.assertEqual(outcome(carry, "ber", form, [write("ber", value)])[0], "index")


if __name__ == "__main__":
    unittest.main()
