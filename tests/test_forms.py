import unittest

from formsalike.forms import FORMS, is_canonical, lacks, loose, read, scanner, write
from tests import samples, wholly
from tests.scanning import scan
from tests.wholly import outcome
from tests.writeoracles import ORACLES, first_lacking

ONE = ("number", 1, 0)


class NamesTest(unittest.TestCase):
    def test_forms(self):
        self.assertEqual(FORMS, ("json", "cbor", "ber", "bencode", "sexp"))
        self.assertIsInstance(FORMS, tuple)


class ReadTest(unittest.TestCase):
    def test_a_text_of_each_form(self):
        value = ("list", (("bytes", (97,)), ("list", ())))
        for form, octets in (("cbor", b"\x82\x41a\x80"), ("ber", b"\x30\x05\x04\x01a\x30\x00"), ("bencode", b"l1:alee"),
                             ("sexp", b"(a())")):
            self.assertEqual(read(form, list(octets)), value)
            self.assertEqual(read(form, tuple(octets)), value)
        self.assertEqual(read("json", list(b'["a",[]]')), ("list", (("text", (97,)), ("list", ()))))

    def test_the_forms_are_not_mixed(self):
        for octets, values in ((b"1", {"json": ONE, "cbor": ("number", -18, 0)}), (b"\x01", {"cbor": ONE}),
                               (b"\x05\x00", {"ber": ("null",)}),
                               (b"i1e", {"bencode": ONE, "sexp": ("bytes", (105, 49, 101))}),
                               (b"1:a", {"bencode": ("bytes", (97,)), "sexp": ("bytes", (97,))}),
                               (b"a", {"sexp": ("bytes", (97,))})):
            for form in FORMS:
                if form in values:
                    self.assertEqual(read(form, list(octets)), values[form])
                else:
                    self.assertEqual(outcome(read, form, list(octets))[0], "place", (form, octets))

    def test_the_same_as_the_readers(self):
        for form in FORMS:
            for text in wholly.texts(form, 201, 60):
                row = list(text)
                self.assertEqual(outcome(read, form, row), outcome(wholly.READERS[form], list(text)), (form, text))
                self.assertEqual(row, list(text))

    def test_places(self):
        for form, octets, place in (("json", b"[1,]", 3), ("cbor", b"\x81\xff", 1), ("ber", b"\x30\x02\x03", 2),
                                    ("bencode", b"li01ee", 3), ("sexp", b"(#6#)", 3)):
            self.assertEqual(outcome(read, form, list(octets)), ("place", place))
            self.assertEqual(outcome(read, form, []), ("place", 0))


class WriteTest(unittest.TestCase):
    def test_a_value_in_each_form(self):
        value = ("list", (("list", ()),))
        for form, octets in (("json", b"[[]]"), ("cbor", b"\x81\x80"), ("ber", b"\x30\x02\x30\x00"),
                             ("bencode", b"llee"), ("sexp", b"(())")):
            self.assertEqual(bytes(write(form, value)), octets)

    def test_the_same_as_the_writers(self):
        for value in samples.random_values(202, 400) + samples.LEAVES + samples.SMALL_TREES:
            for form in FORMS:
                found = outcome(write, form, value)
                self.assertEqual(found, outcome(wholly.WRITERS[form], value))
                index = first_lacking(form, value)
                if index is None:
                    self.assertEqual(found, ("value", list(ORACLES[form].canonical(value))))
                else:
                    self.assertEqual(found, ("index", index))

    def test_a_new_list(self):
        for form in FORMS:
            written = write(form, ("list", ()))
            kept = list(written)
            written.clear()
            self.assertEqual(write(form, ("list", ())), kept)


class LacksTest(unittest.TestCase):
    def test_each_form(self):
        for value, indexes in ((("bytes", ()), (0, None, None, None, None)), (("text", ()), (None, None, None, 0, 0)),
                               (("null",), (None, None, None, 0, 0)), (ONE, (None, None, None, None, 0)),
                               (("number", 1, -1), (None, None, None, 0, 0)),
                               (("number", 1, 10 ** 9 + 1), (None, 0, None, 0, 0)),
                               (("map", ()), (None, None, None, None, 0)), (("list", ()), (None,) * 5),
                               (("list", (("bytes", ()), ("null",), ("number", 1, -10 ** 10))), (1, 3, None, 2, 2))):
            self.assertEqual(tuple(lacks(form, value) for form in FORMS), indexes, value)

    def test_the_same_as_the_forms(self):
        for value in samples.random_values(203, 400) + samples.LEAVES + samples.SMALL_TREES:
            for form in FORMS:
                found = lacks(form, value)
                self.assertEqual(found, wholly.LACKS[form](value))
                self.assertEqual(found, first_lacking(form, value))
                self.assertEqual(outcome(write, form, value)[0], "value" if found is None else "index")


class ObjectsTest(unittest.TestCase):
    def test_scanners(self):
        for form in FORMS:
            first, second = scanner(form), scanner(form)
            self.assertIsInstance(first, wholly.SCANNERS[form])
            self.assertIsNot(first, second)
            for text in wholly.texts(form, 204, 10):
                self.assertEqual(scan(scanner(form), text), scan(wholly.SCANNERS[form](), text))

    def test_loose_writers(self):
        for form in FORMS:
            first, second = loose(form), loose(form)
            self.assertIsInstance(first, wholly.LOOSE[form])
            self.assertIsNot(first, second)
            for value in samples.random_values(205, 20, form):
                pairs = ORACLES[form].pairs(value)
                writer = loose(form)
                self.assertEqual([bytes(writer.take(event)) for event, _ in pairs], [octets for _, octets in pairs])


class IsCanonicalTest(unittest.TestCase):
    def check(self, form, octets, wanted):
        for row in (list(octets), tuple(octets)):
            self.assertIs(is_canonical(form, row), wanted, (form, octets))
            self.assertEqual(list(row), list(octets))

    def test_canonical_texts(self):
        for form in FORMS:
            for value in samples.random_values(206, 200, form):
                self.check(form, write(form, value), True)

    def test_other_texts_of_the_same_value(self):
        for form, canonical, others in (
                ("json", b'{"a":1,"b":[]}', (b'{"b":[],"a":1}', b' {"a":1,"b":[]}', b'{"a":1,"b":[]} ',
                                             b'{"a":1.0,"b":[]}', b'{"\\u0061":1,"b":[]}', b'{"a": 1,"b":[]}')),
                ("json", b"1e+21", (b"1e21", b"1E+21", b"10e20", b"1" + b"0" * 21)),
                ("cbor", b"\xa2\x61a\x01\x61b\x80", (b"\xa2\x61b\x80\x61a\x01", b"\xbf\x61a\x01\x61b\x80\xff",
                                                     b"\xa2\x61a\x18\x01\x61b\x80", b"\xa2\x78\x01a\x01\x61b\x80",
                                                     b"\xa2\x61a\xf9\x3c\x00\x61b\x80",
                                                     b"\xa2\x61a\xc2\x41\x01\x61b\x80",
                                                     b"\xa2\x61a\x01\x61b\x9f\xff")),
                ("ber", b"\x31\x06\x30\x04\x0c\x00\x05\x00", (b"\x31\x80\x30\x04\x0c\x00\x05\x00\0\0",
                                                              b"\x31\x81\x06\x30\x04\x0c\x00\x05\x00",
                                                              b"\x31\x06\x30\x04\x2c\x00\x05\x00")),
                ("ber", b"\x01\x01\xff", (b"\x01\x01\x01", b"\x01\x81\x01\xff")),
                ("ber", b"\x02\x01\x64", (b"\x09\x04\x01100", b"\x09\x05\x031.E2")),
                ("bencode", b"d1:ai1e1:blee", (b"d1:ble1:ai1ee",)),
                ("sexp", b"(1:a())", (b"(a())", b"( 1:a())", b'("a"())', b"(#61#())", b"(|YQ==|())", b"(1:a())\n"))):
            self.check(form, canonical, True)
            for other in others:
                self.assertEqual(read(form, list(other)), read(form, list(canonical)), other)
                self.check(form, other, False)

    def test_texts_that_are_refused(self):
        for form, octets in (("json", b"[1,]"), ("json", b"nul"), ("cbor", b"\xff"), ("cbor", b"\x18"),
                             ("ber", b"\x30\x01"), ("ber", b"\x05\x00\x05"), ("bencode", b"i01e"), ("bencode", b"l"),
                             ("sexp", b")"), ("sexp", b"1:")):
            self.check(form, octets, False)

    def test_no_octets(self):
        for form in FORMS:
            self.check(form, b"", False)

    def test_any_octets(self):
        for form in FORMS:
            for text in wholly.texts(form, 207, 100):
                word, value = outcome(wholly.READERS[form], list(text))
                wanted = word == "value" and ORACLES[form].canonical(value) == text
                self.check(form, text, wanted)


if __name__ == "__main__":
    unittest.main()
