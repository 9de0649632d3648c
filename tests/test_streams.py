import random
import unittest

from formsalike.errors import Unreadable
from formsalike.events import Builder
from formsalike.forms import FORMS
from formsalike.streams import Stream, carry, read_pieces
from tests import samples, wholly
from tests.wholly import in_width, outcome

CLOSE = ("close",)
LIST = ("open", "list")
MAP = ("open", "map")

# A text of each form; and one that is refused, with the place.
TEXTS = {
    "json": b' { "b" : [ 1.50 , -2e3, "\\u0041\xe2\x82\xac\\n" ] , "a" : null , "" : { "x" : true , "w":[] } } ',
    "cbor": b"\xbf\x61b\x9f\xc4\x82\x21\x18\x96\x39\x07\xcf\x7f\x61A\x63\xe2\x82\xac\x61\x0a\xff\xff\x61a\xf6\x60"
            b"\xa2\x61x\xf5\x61w\x80\xff",
    "ber": b"\x31\x80\x30\x80\x0c\x01b\x30\x80\x09\x05\x021.50\x02\x02\xf8\x30\x2c\x80\x04\x02A\xe2\x04\x03\x82\xac\x0a"
           b"\0\0\0\0\0\0\x30\x05\x0c\x01a\x05\x00\x30\x80\x2c\x00\x31\x0e\x30\x06\x0c\x01x\x01\x01\x07\x30\x04\x0c\x00"
           b"\x30\x00\0\0\0\0",
    "bencode": b"d1:bli-120e3:a\x00be0:de3:\xe2\x82\xacd0:leee",
    "sexp": b' ( token"q\\x41\\\n\\n"#6 1#|YWI=|3:a)(() ( (t-1)))\n ',
}
REFUSED = {
    "json": (b'{"a":[1,02]}', 9), "cbor": (b"\x83\x01\x81\xff\x00", 3),
    "ber": (b"\x30\x08\x02\x01\x01\x30\x03\x05\x01\x00", 8), "bencode": (b"d1:ai1e1:ai2ee", 9),
    "sexp": (b"(a #61# (b |YQ=|))", 15),
}


def stream_outcome(form, pieces):
    """The lists of events of the pieces and of the end, or the place and the index of the piece that raised it."""
    stream = Stream(form)
    found = []
    try:
        for piece in pieces:
            found.append(stream.feed(piece))
        found.append(stream.finish())
    except Unreadable as error:
        return ("place", error.what, len(found))
    return ("value", found)


def expected_outcome(form, pieces):
    """The same by the oracle of the form's scanner."""
    octets = b"".join(map(bytes, pieces))
    events, place = wholly.SCAN_ORACLES[form].scan(octets)
    if place is None:
        return ("value", wholly.grouped(events, pieces))
    at = 0
    for index, piece in enumerate(pieces):
        at += len(piece)
        if place < at:
            return ("place", place, index)
    return ("place", place, len(pieces))


class StreamTest(unittest.TestCase):
    def check(self, form, pieces):
        copies = [type(piece)(piece) for piece in pieces]
        found = stream_outcome(form, pieces)
        self.assertEqual(found, expected_outcome(form, pieces), (form, pieces))
        self.assertEqual(pieces, copies)
        return found

    def test_events_of_the_pieces(self):
        stream = Stream("json")
        self.assertEqual(stream.feed(list(b'[{"a')), [LIST, MAP])
        self.assertEqual(stream.feed([]), [])
        self.assertEqual(stream.feed(tuple(b'": 1')), [("key", (97,))])
        self.assertEqual(stream.feed(list(b'2,"b":[')), [("leaf", ("number", 12, 0)), ("key", (98,)), LIST])
        self.assertEqual(stream.feed(list(b"]}, tru")), [CLOSE, CLOSE])
        self.assertEqual(stream.feed(list(b"e]")), [("leaf", ("truth", True)), CLOSE])
        self.assertEqual(stream.feed(list(b" \n")), [])
        self.assertEqual(stream.finish(), [])

    def test_events_of_the_end(self):
        token = ("bytes", tuple(b"token"))
        for form, octets, value in (("json", b"-15", ("number", -15, 0)), ("sexp", b"token", token)):
            stream = Stream(form)
            self.assertEqual(stream.feed(list(octets)), [])
            self.assertEqual(stream.finish(), [("leaf", value)])

    def test_every_width(self):
        for form, octets in TEXTS.items():
            whole = self.check(form, [list(octets)])
            self.assertEqual(whole[0], "value")
            for width in range(1, len(octets) + 1):
                found = self.check(form, in_width(octets, width))
                self.assertEqual(sum(found[1], []), sum(whole[1], []))

    def test_every_cut_in_two(self):
        for form, octets in TEXTS.items():
            for at in range(len(octets) + 1):
                self.check(form, [tuple(octets[:at]), list(octets[at:])])

    def test_empty_pieces(self):
        for form, octets in TEXTS.items():
            pieces = [[]]
            for octet in octets:
                pieces += [[octet], (), []]
            self.assertEqual(self.check(form, pieces)[0], "value")

    def test_refused_texts(self):
        for form, (octets, place) in REFUSED.items():
            for width in range(1, len(octets) + 1):
                found = self.check(form, in_width(octets, width))
                self.assertEqual(found, ("place", place, place // width))
            for at in range(place + 1):
                found = self.check(form, [list(octets[:at]), [], list(octets[at:place + 1])])
                self.assertEqual(found, ("place", place, 2))

    def test_texts_that_end_too_early(self):
        for form, octets in TEXTS.items():
            text = octets.strip() if form == "sexp" or form == "json" else octets
            for many in range(len(text)):
                pieces = in_width(text[:many], 5)
                self.assertEqual(self.check(form, pieces), ("place", many, len(pieces)))

    def test_no_octets_at_all(self):
        for form in FORMS:
            for pieces in ([], [[]], [(), []]):
                self.assertEqual(self.check(form, pieces), ("place", 0, len(pieces)))

    def test_texts_of_each_kind_at_random(self):
        chance = random.Random(211)
        for form in FORMS:
            for text in wholly.texts(form, 212, 40):
                for pieces in wholly.ways_to_cut(text, chance):
                    self.check(form, pieces)

    def test_returned_lists(self):
        for form, octets in TEXTS.items():
            stream = Stream(form)
            kept = []
            for octet in octets:
                events = stream.feed([octet])
                events.append("changed")
                kept.append(events)
            events = stream.finish()
            events.append("changed")
            kept.append(events)
            wanted = stream_outcome(form, in_width(octets, 1))[1]
            self.assertEqual(kept, [events + ["changed"] for events in wanted])

    def test_pieces_may_be_changed_behind_the_call(self):
        for form, octets in TEXTS.items():
            stream = Stream(form)
            events = []
            piece = []
            for octet in octets:
                piece[:] = [octet]
                events.extend(stream.feed(piece))
                piece[:] = [0, 0]
            events.extend(stream.finish())
            self.assertEqual(events, sum(stream_outcome(form, [list(octets)])[1], []))

    def test_side_by_side(self):
        streams = [(form, Stream(form), Builder(), octets) for form, octets in list(TEXTS.items()) * 2]
        for at in range(0, max(map(len, TEXTS.values())), 3):
            for form, stream, builder, octets in streams:
                wholly.value_by(builder, stream.feed(list(octets[at:at + 3])))
        for form, stream, builder, octets in streams:
            self.assertEqual(wholly.value_by(builder, stream.finish()), wholly.READERS[form](list(octets)))
            self.assertIs(builder.is_done, True)

    def test_two_of_one_form_side_by_side(self):
        chance = random.Random(213)
        for form in FORMS:
            ones, twos = wholly.texts(form, 214, 10), wholly.texts(form, 215, 10)
            for one, two in zip(ones, twos):
                wanted = [stream_outcome(form, [list(text)]) for text in (one, two)]
                rows = [in_width(text, chance.randint(1, 5)) for text in (one, two)]
                self.assertEqual(fed_in_turns(form, rows), [row[:2] if row[0] == "place" else ("value", sum(row[1], []))
                                                            for row in wanted])


def fed_in_turns(form, rows):
    """The events of several texts in pieces, or the places, each by a stream of its own."""
    streams = [Stream(form) for _ in rows]
    found = [[] for _ in rows]
    failed = {}
    for at in range(max(map(len, rows)) + 1):
        for index, pieces in enumerate(rows):
            if index in failed or at > len(pieces):
                continue
            try:
                events = streams[index].feed(pieces[at]) if at < len(pieces) else streams[index].finish()
            except Unreadable as error:
                failed[index] = error.what
                continue
            found[index].extend(events)
    return [("place", failed[index]) if index in failed else ("value", events) for index, events in enumerate(found)]


class ReadPiecesTest(unittest.TestCase):
    def test_a_text_of_each_form(self):
        for form, octets in TEXTS.items():
            value = wholly.READERS[form](list(octets))
            for width in range(1, len(octets) + 1):
                self.assertEqual(read_pieces(form, in_width(octets, width)), value)
            self.assertEqual(read_pieces(form, [(), [], tuple(octets), []]), value)

    def test_refused_texts(self):
        for form, (octets, place) in REFUSED.items():
            for width in range(1, len(octets) + 1):
                self.assertEqual(outcome(read_pieces, form, in_width(octets, width)), ("place", place))

    def test_no_octets_at_all(self):
        for form in FORMS:
            for pieces in ([], [[]], [(), []]):
                self.assertEqual(outcome(read_pieces, form, pieces), ("place", 0))

    def test_however_they_are_cut(self):
        chance = random.Random(221)
        for form in FORMS:
            for text in wholly.texts(form, 222, 40):
                wanted = outcome(wholly.READERS[form], list(text))
                for pieces in wholly.ways_to_cut(text, chance):
                    copies = [type(piece)(piece) for piece in pieces]
                    self.assertEqual(outcome(read_pieces, form, pieces), wanted)
                    self.assertEqual(pieces, copies)


class CarryTest(unittest.TestCase):
    def check(self, source, goal, pieces):
        copies = [type(piece)(piece) for piece in pieces]
        found = outcome(carry, source, goal, pieces)
        wanted = wholly.carried(source, goal, b"".join(map(bytes, pieces)))
        if wanted[0] == "value":
            wanted = ("value", wholly.grouped(wanted[1], pieces))
        self.assertEqual(found, wanted, (source, goal, pieces))
        self.assertEqual(pieces, copies)
        return found

    def check_index(self, source, goal, octets, index):
        self.check_error(source, goal, octets, ("index", index))

    def check_place(self, source, goal, octets, place):
        self.check_error(source, goal, octets, ("place", place))

    def check_error(self, source, goal, octets, error):
        for pieces in ([list(octets)], in_width(octets, 1), in_width(octets, 3), [(), tuple(octets), ()]):
            self.assertEqual(self.check(source, goal, pieces), error)

    def test_one_list_for_each_piece_and_one_for_the_end(self):
        pieces = [list(b"[1"), [], tuple(b", [2,"), list(b' "x"'), list(b"]] ")]
        self.assertEqual([bytes(row) for row in carry("json", "cbor", pieces)],
                         [b"\x9f", b"", b"\x01\x9f\x02", b"\x61x", b"\xff\xff", b""])
        self.assertEqual([bytes(row) for row in carry("json", "json", [list(b"1"), list(b"2")])], [b"", b"", b"12"])
        self.assertEqual([bytes(row) for row in carry("sexp", "bencode", [list(b"tok"), list(b"en")])],
                         [b"", b"", b"5:token"])
        self.assertEqual([bytes(row) for row in carry("bencode", "sexp", [list(b"l1:a"), list(b"0:e")])],
                         [b"(a", b' "")', b""])

    def test_entries_as_they_come(self):
        for goal, octets in (("json", b'{"b": 1, "a": 2}'), ("cbor", b"\xbf\x61b\x01\x61a\x02\xff"),
                             ("ber", b"\x31\x80\x30\x80\x0c\x01b\x02\x01\x01\0\0\x30\x80\x0c\x01a\x02\x01\x02\0\0\0\0"),
                             ("bencode", b"d1:bi1e1:ai2ee")):
            for source, text in (("json", b'{"b":1,"a":2}'), ("cbor", b"\xa2\x61b\x01\x61a\x02"),
                                 ("bencode", b"d1:bi1e1:ai2ee")):
                self.assertEqual(bytes(sum(carry(source, goal, [list(text)]), [])), octets)

    def test_every_pair_of_forms(self):
        chance = random.Random(231)
        for source in FORMS:
            for goal in FORMS:
                for text in wholly.texts(source, 232, 12):
                    for pieces in wholly.ways_to_cut(text, chance):
                        self.check(source, goal, pieces)

    def test_what_is_carried_is_read_as_the_value(self):
        chance = random.Random(233)
        # Each of these forms has all kinds of values that the forms before it have.
        for at, fewer in enumerate(("sexp", "bencode", "cbor", "ber")):
            more = ("sexp", "bencode", "cbor", "ber")[at:]
            for source in more:
                for goal in more:
                    for value in samples.random_values(234 + at, 20, fewer):
                        octets = wholly.SCAN_ORACLES[source].random_text(value, chance)
                        rows = carry(source, goal, wholly.cut(octets, chance))
                        self.assertEqual(wholly.READERS[goal](sum(rows, [])), value)
        for source in ("json", "cbor", "ber"):
            for goal in ("json", "cbor", "ber"):
                for value in samples.random_values(239, 20, "json"):
                    octets = wholly.SCAN_ORACLES[source].random_text(value, chance)
                    rows = carry(source, goal, wholly.cut(octets, chance))
                    self.assertEqual(wholly.READERS[goal](sum(rows, [])), value)

    def test_no_pieces_at_all(self):
        for source in FORMS:
            for goal in FORMS:
                for pieces in ([], [[]], [(), []]):
                    self.assertEqual(self.check(source, goal, pieces), ("place", 0))

    def test_refused_texts(self):
        for source, (octets, place) in REFUSED.items():
            for goal in ("ber", source):
                self.check_place(source, goal, octets, place)
            for width in range(1, len(octets) + 1):
                self.assertEqual(self.check(source, "ber", in_width(octets, width)), ("place", place))

    def test_what_the_goal_lacks(self):
        self.check_index("cbor", "json", b"\x82\x01\x41a", 2)
        self.check_index("json", "sexp", b"{}", 0)
        self.check_index("json", "bencode", b'{"a":1,"b":[2.5]}', 3)
        self.check_index("json", "cbor", b"[1e1000000001]", 1)
        self.check_index("json", "cbor", b"1e-1000000001", 0)
        self.check_index("ber", "bencode", b"\x30\x04\x30\x00\x05\x00", 2)
        self.check_index("bencode", "json", b"li1e1:ae", 2)
        self.check_index("bencode", "sexp", b"l1:adee", 2)
        self.check_index("sexp", "json", b"(() a)", 2)
        self.check_index("cbor", "bencode", b"\xa2\x61b\xa1\x61x\x00\x61a\xf6", 3)

    def test_the_first_error_of_either_side(self):
        self.check_index("json", "sexp", b"[null,x", 1)
        self.check_place("json", "sexp", b"[nulx", 4)
        self.check_index("cbor", "json", b"\x82\x41a\xff", 1)
        self.check_place("cbor", "json", b"\x82\xff\x41a", 1)
        self.check_index("ber", "json", b"\x30\x04\x04\x00\x07\x00", 1)
        self.check_place("ber", "json", b"\x30\x04\x07\x00\x04\x00", 2)
        self.check_index("bencode", "json", b"l0:x", 1)
        self.check_place("bencode", "json", b"lx0:", 1)
        self.check_index("sexp", "json", b"(a )x", 1)
        self.check_place("sexp", "json", b"()x a", 2)

    def test_both_with_one_octet(self):
        self.check_index("json", "sexp", b"[1,", 1)
        self.check_place("json", "sexp", b"[1x", 2)
        self.check_place("json", "sexp", b"1x", 1)
        self.check_place("json", "sexp", b"[12", 3)
        self.check_place("sexp", "json", b"(a]", 2)
        self.check_index("sexp", "json", b"(a)", 1)
        self.check_index("sexp", "json", b"a b", 0)
        self.check_place("sexp", "json", b"a(", 1)
        self.check_index("sexp", "json", b"a", 0)
        self.check_place("sexp", "json", b"(a", 2)
        self.check_index("json", "sexp", b"1", 0)
        self.check_place("bencode", "sexp", b"li1x", 3)
        self.check_place("json", "sexp", b"[" * 24 + b"{", 24)
        self.check_place("json", "bencode", b'{"a":1,"a"', 9)
        self.check_place("cbor", "bencode", b"\x82\x01\xfb\x7f\xf0\0\0\0\0\0\0", 10)

    def test_returned_lists(self):
        for source in FORMS:
            for goal in ("ber", source):
                pieces = in_width(TEXTS[source], 4)
                rows = carry(source, goal, pieces)
                copied = [list(row) for row in rows]
                for row in rows:
                    row.append(0)
                rows.clear()
                self.assertEqual(carry(source, goal, pieces), copied)

    def test_the_octets_do_not_depend_on_the_cut(self):
        for source, octets in TEXTS.items():
            whole = sum(carry(source, "ber", [list(octets)]), [])
            for width in range(1, len(octets) + 1):
                rows = carry(source, "ber", in_width(octets, width))
                self.assertEqual(len(rows), -(-len(octets) // width) + 1)
                self.assertEqual(sum(rows, []), whole)


if __name__ == "__main__":
    unittest.main()
