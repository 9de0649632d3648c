import itertools
import random
import unittest

from formsalike.chains import convert, through
from formsalike.forms import FORMS
from tests import samples, wholly
from tests.test_streams import REFUSED, TEXTS
from tests.wholly import outcome
from tests.writeoracles import ORACLES, first_lacking
from tests.writing import copy_of

ONE = ("number", 1, 0)
ATOMS = ("list", (("bytes", (97,)), ("list", (("bytes", ()), ("list", ())))))


class ConvertTest(unittest.TestCase):
    def check(self, source, goal, octets, written):
        for row in (list(octets), tuple(octets)):
            found = convert(source, goal, row)
            self.assertIsInstance(found, list)
            self.assertEqual(bytes(found), written, (source, goal, octets))
            self.assertEqual(list(row), list(octets))

    def test_from_each_form_into_each_form(self):
        texts = {"cbor": b"\x82\x41a\x9f\x40\x80\xff", "ber": b"\x30\x80\x04\x01a\x30\x04\x24\x00\x30\x00\0\0",
                 "bencode": b"l1:al0:leee", "sexp": b'(a ("" ( )))'}
        canonical = {"cbor": b"\x82\x41a\x82\x40\x80", "ber": b"\x30\x09\x04\x01a\x30\x04\x04\x00\x30\x00",
                     "bencode": b"l1:al0:leee", "sexp": b"(1:a(0:()))"}
        for source in texts:
            for goal in texts:
                self.check(source, goal, texts[source], canonical[goal])

    def test_from_and_into_json(self):
        octets = b' { "b" : [1.50] , "a":"\\u0041" } '
        in_ber = b"\x31\x18\x30\x06\x0c\x01a\x0c\x01A\x30\x0e\x0c\x01b\x30\x09\x09\x07\x0315.E-1"
        for goal, written in (("json", b'{"a":"A","b":[1.5]}'), ("ber", in_ber),
                              ("cbor", b"\xa2\x61a\x61A\x61b\x81\xc4\x82\x20\x0f")):
            self.check("json", goal, octets, written)
            self.check(goal, "json", written, b'{"a":"A","b":[1.5]}')

    def test_the_same_form_twice(self):
        for form, octets in TEXTS.items():
            self.check(form, form, octets, ORACLES[form].canonical(wholly.READERS[form](list(octets))))

    def test_refused_texts(self):
        for source, (octets, place) in REFUSED.items():
            for goal in FORMS:
                self.assertEqual(outcome(convert, source, goal, list(octets)), ("place", place))
                self.assertEqual(outcome(convert, source, goal, []), ("place", 0))

    def test_what_the_goal_lacks(self):
        for source, goal, octets, index in (("cbor", "json", b"\x82\x01\x41a", 2), ("json", "sexp", b"{}", 0),
                                            ("json", "bencode", b'[1,{"a":1.5}]', 3),
                                            ("json", "cbor", b"1e9999999999", 0),
                                            ("ber", "bencode", b"\x30\x04\x30\x00\x05\x00", 2),
                                            ("bencode", "json", b"d1:bi1e1:a0:e", 1),
                                            ("sexp", "json", b"(()()a)", 3)):
            self.assertEqual(outcome(convert, source, goal, list(octets)), ("index", index))

    def test_a_place_comes_before_what_the_goal_lacks(self):
        self.assertEqual(outcome(convert, "json", "sexp", list(b"[null,x")), ("place", 6))
        self.assertEqual(outcome(convert, "sexp", "json", list(b"(a b c))")), ("place", 7))

    def test_random_texts(self):
        for source in FORMS:
            for text in wholly.texts(source, 301, 25):
                word, found = outcome(wholly.READERS[source], list(text))
                for goal in FORMS:
                    if word == "place":
                        wanted = (word, found)
                    elif first_lacking(goal, found) is not None:
                        wanted = ("index", first_lacking(goal, found))
                    else:
                        wanted = ("value", list(ORACLES[goal].canonical(found)))
                    self.assertEqual(outcome(convert, source, goal, list(text)), wanted, (source, goal, text))


class ThroughTest(unittest.TestCase):
    def test_no_names_at_all(self):
        for value in samples.LEAVES + samples.SMALL_TREES:
            self.assertEqual(through(value, []), value)
            self.assertEqual(through(value, ()), value)

    def test_one_name(self):
        for form in FORMS:
            for value in samples.random_values(302, 60, form):
                self.assertEqual(through(value, [form]), value)
                self.assertEqual(through(value, (form,)), value)
                self.assertEqual(through(value, (form, form, form)), value)

    def test_every_chain_of_three(self):
        for names in itertools.product(("cbor", "ber", "bencode", "sexp"), repeat=3):
            self.assertEqual(through(ATOMS, names), ATOMS)
        items = ("list", (("text", (0x1F600,)), ("null",), ("truth", True)))
        value = ("map", (((), ("number", -15, 30)), ((97,), items)))
        for names in itertools.product(("cbor", "ber", "json"), repeat=3):
            self.assertEqual(through(value, list(names)), value)

    def test_what_a_form_lacks(self):
        value = ("list", (ONE, ("map", (((97,), ("text", (98,))),)), ("bytes", ())))
        for names, index in ((["json"], 4), (["cbor", "json"], 4), (["ber", "bencode"], 3), (["sexp", "json"], 1),
                             (["cbor", "ber", "sexp", "json"], 1), (("bencode", "sexp"), 3),
                             (["cbor", "cbor", "json"], 4)):
            self.assertEqual(outcome(through, value, names), ("index", index))

    def test_random_chains(self):
        chance = random.Random(303)
        for value in samples.random_values(304, 400):
            names = [chance.choice(FORMS) for _ in range(chance.randint(0, 4))]
            kept, copied = list(names), copy_of(value)
            lacking = [first_lacking(form, value) for form in names if first_lacking(form, value) is not None]
            wanted = ("index", lacking[0]) if lacking else ("value", value)
            self.assertEqual(outcome(through, value, names), wanted)
            self.assertEqual((names, value), (kept, copied))


if __name__ == "__main__":
    unittest.main()
