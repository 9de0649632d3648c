import random
import unittest

from formsalike.utf8 import Utf8, decode, encode

EDGES = [0, 0x7F, 0x80, 0x7FF, 0x800, 0xD7FF, 0xE000, 0xFFFF, 0x10000, 0x10FFFF]


def all_points():
    return [point for point in range(0x110000) if not 0xD800 <= point <= 0xDFFF]


def beginnings():
    """All beginnings of the octets of one code point, as Python writes them."""
    found = {b""}
    for point in all_points():
        octets = chr(point).encode()
        found.update(octets[:many] for many in range(1, len(octets) + 1))
    return found


BEGINNINGS = beginnings()
WITHIN = {octets for octets in BEGINNINGS if octets + b"\x80" in BEGINNINGS or octets + b"\xBF" in BEGINNINGS}


def taken(octets):
    taker = Utf8()
    for octet in octets:
        assert taker.take(octet)
    return taker


class EncodeTest(unittest.TestCase):
    def test_edges(self):
        for point in EDGES:
            self.assertEqual(encode((point,)), list(chr(point).encode()))
        self.assertEqual(encode([0x7FF, 0x800]), [0xDF, 0xBF, 0xE0, 0xA0, 0x80])

    def test_empty(self):
        self.assertEqual(encode(()), [])
        self.assertEqual(encode([]), [])

    def test_every_code_point(self):
        points = all_points()
        octets = encode(points)
        self.assertIsInstance(octets, list)
        self.assertEqual(bytes(octets), "".join(map(chr, points)).encode())

    def test_leaves_its_argument(self):
        points = [97, 0x10000]
        octets = encode(points)
        octets.append(1)
        self.assertEqual(points, [97, 0x10000])
        self.assertEqual(encode(points), [97, 0xF0, 0x90, 0x80, 0x80])


class TakeTest(unittest.TestCase):
    def check(self, before, octet):
        """The octet behind a beginning: whether it can stand, and what is left of the object."""
        taker = taken(before)
        behind = bytes([*before, octet])
        answer = taker.take(octet)
        self.assertIs(answer, behind in BEGINNINGS, behind)
        if not answer:
            self.assertEqual(taker.points, [])
            self.assertIs(taker.is_open, before in WITHIN)
            return
        self.assertIs(taker.is_open, behind in WITHIN, behind)
        self.assertEqual(taker.points, [] if behind in WITHIN else [ord(behind.decode())])

    def test_nothing_taken(self):
        taker = Utf8()
        self.assertIs(taker.is_open, False)
        self.assertEqual(taker.points, [])

    def test_each_first_octet(self):
        for octet in range(256):
            self.check(b"", octet)

    def test_each_second_octet(self):
        for first in sorted(octets for octets in WITHIN if len(octets) == 1):
            for octet in range(256):
                self.check(first, octet)

    def test_each_third_octet(self):
        for before in sorted(octets for octets in WITHIN if len(octets) == 2):
            for octet in (0, 0x7F, 0x80, 0x8F, 0x90, 0x9F, 0xA0, 0xBF, 0xC0, 0xFF):
                self.check(before, octet)

    def test_each_fourth_octet(self):
        firsts = [octets for octets in sorted(WITHIN) if len(octets) == 3]
        for before in firsts[::7] + firsts[-1:]:
            for octet in (0, 0x7F, 0x80, 0xBF, 0xC0, 0xFF):
                self.check(before, octet)

    def test_edges_octet_by_octet(self):
        taker = Utf8()
        points = []
        for point in EDGES:
            octets = chr(point).encode()
            for octet in octets[:-1]:
                self.assertIs(taker.take(octet), True)
                self.assertIs(taker.is_open, True)
                self.assertEqual(taker.points, points)
            self.assertIs(taker.take(octets[-1]), True)
            self.assertIs(taker.is_open, False)
            points.append(point)
            self.assertEqual(taker.points, points)

    def test_refused_octets_change_nothing(self):
        text = "a\u00e9\u0800\ud7ff\uffff\U00010000\U0010ffff"
        taker = Utf8()
        behind = b""
        for octet in text.encode():
            open_before, points_before = taker.is_open, list(taker.points)
            for other in range(256):
                if behind + bytes([other]) not in BEGINNINGS:
                    self.assertIs(taker.take(other), False)
                    self.assertIs(taker.is_open, open_before)
                    self.assertEqual(taker.points, points_before)
            self.assertIs(taker.take(octet), True)
            behind += bytes([octet])
            if behind not in WITHIN:
                behind = b""
        self.assertEqual(taker.points, [ord(character) for character in text])

    def test_two_side_by_side(self):
        first, second = Utf8(), Utf8()
        for one, two in zip("\u00e9ab".encode(), "z\U0001f600".encode()):
            self.assertTrue(first.take(one))
            self.assertTrue(second.take(two))
        self.assertEqual((first.points, first.is_open), ([0xE9, 97, 98], False))
        self.assertEqual((second.points, second.is_open), ([122], True))
        self.assertTrue(second.take(0x80))
        self.assertEqual((second.points, second.is_open), ([122, 0x1F600], False))


class DecodeTest(unittest.TestCase):
    def test_well_formed(self):
        self.assertEqual(decode([]), ((), None))
        self.assertEqual(decode(()), ((), None))
        for point in EDGES:
            octets = list(chr(point).encode())
            self.assertEqual(decode(octets), ((point,), None))
            self.assertEqual(decode(tuple(octets)), ((point,), None))

    def test_every_code_point(self):
        points = all_points()
        self.assertEqual(decode(list("".join(map(chr, points)).encode())), (tuple(points), None))

    def test_the_octet_that_fails(self):
        self.assertEqual(decode([0x80]), (None, 0))
        self.assertEqual(decode([0xC0, 0x80]), (None, 0))
        self.assertEqual(decode([0xC1, 0xBF]), (None, 0))
        self.assertEqual(decode([97, 0xF5, 0x80]), (None, 1))
        self.assertEqual(decode([97, 0xE0, 0x9F, 0x80]), (None, 2))
        self.assertEqual(decode([97, 0xED, 0xA0, 0x80]), (None, 2))
        self.assertEqual(decode([97, 0xF0, 0x8F, 0x80, 0x80]), (None, 2))
        self.assertEqual(decode([97, 0xF4, 0x90, 0x80, 0x80]), (None, 2))
        self.assertEqual(decode([0xE1, 0x80, 97]), (None, 2))
        self.assertEqual(decode([0xF1, 0x80, 0x80, 0xC0, 97]), (None, 3))
        self.assertEqual(decode([0xC3, 0xC3, 0xA9]), (None, 1))

    def test_ends_within_a_character(self):
        self.assertEqual(decode([0xC3]), (None, 0))
        self.assertEqual(decode([97, 98, 0xE2]), (None, 2))
        self.assertEqual(decode([97, 0xE2, 0x82]), (None, 2))
        self.assertEqual(decode([0xF0, 0x9F, 0x98]), (None, 2))
        self.assertEqual(decode((97, 0xF0)), (None, 1))

    def test_at_random(self):
        chance = random.Random(7)
        pool = [0, 97, 0x7F, 0x80, 0x8F, 0x90, 0x9F, 0xA0, 0xBF, 0xC1, 0xC2, 0xDF, 0xE0, 0xE1, 0xED, 0xEF, 0xF0, 0xF3,
                0xF4, 0xF5, 0xFF]
        for _ in range(20000):
            octets = [chance.choice(pool) for _ in range(chance.randint(0, 6))]
            self.assertEqual(decode(octets), self.expected(octets), octets)

    def expected(self, octets):
        behind = b""
        for index, octet in enumerate(octets):
            behind = behind + bytes([octet]) if behind in WITHIN else bytes([octet])
            if behind not in BEGINNINGS:
                return None, index
        if behind in WITHIN:
            return None, len(octets) - 1
        return tuple(map(ord, bytes(octets).decode())), None


if __name__ == "__main__":
    unittest.main()
