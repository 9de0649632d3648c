import base64
import random
import unittest

from formsalike.base64 import Base64, encode64

DIGITS = b"ABCDEFGHIJKLMNOPQRSTUVWXYZabcdefghijklmnopqrstuvwxyz0123456789+/"
PAD = 61


def taken(octets):
    taker = Base64()
    for octet in octets:
        assert taker.take(octet), octets
    return taker


def bits_of(digits):
    return "".join(format(DIGITS.index(digit), "06b") for digit in digits)


def expected_octets(digits):
    bits = bits_of(digits)
    return [int(bits[at:at + 8], 2) for at in range(0, len(bits) // 8 * 8, 8)]


def can_stand(digits, pads, octet):
    """Point 2.3, over the bits as a string."""
    if octet in DIGITS:
        return pads == 0
    bits = bits_of(digits)
    rest = bits[len(bits) // 8 * 8:]
    places = (len(digits) % 4 == 2 and pads <= 1) or (len(digits) % 4 == 3 and pads == 0)
    return octet == PAD and places and "1" not in rest


class Encode64Test(unittest.TestCase):
    def test_known(self):
        self.assertEqual(encode64([]), [])
        self.assertEqual(encode64(()), [])
        self.assertEqual(bytes(encode64(b"f")), b"Zg==")
        self.assertEqual(bytes(encode64(b"fo")), b"Zm8=")
        self.assertEqual(bytes(encode64(b"foo")), b"Zm9v")
        self.assertEqual(bytes(encode64((255, 255, 255, 251, 240))), b"////+/A=")

    def test_all_digits(self):
        octets = base64.b64decode(DIGITS)
        self.assertEqual(bytes(encode64(list(octets))), DIGITS)

    def test_every_length(self):
        chance = random.Random(8)
        for many in range(0, 40):
            for _ in range(20):
                octets = [chance.randint(0, 255) for _ in range(many)]
                before = list(octets)
                written = encode64(octets)
                self.assertIsInstance(written, list)
                self.assertEqual(bytes(written), base64.b64encode(bytes(octets)))
                self.assertEqual(encode64(tuple(octets)), written)
                self.assertEqual(octets, before)

    def test_long(self):
        octets = list(range(256)) * 100
        self.assertEqual(bytes(encode64(octets)), base64.b64encode(bytes(octets)))


class Base64Test(unittest.TestCase):
    def check_each_octet_behind(self, before):
        """What every octet does behind these, and that a refused one changes nothing."""
        digits = bytes(before).rstrip(b"=")
        pads = len(before) - len(digits)
        taker = taken(before)
        for octet in range(256):
            if can_stand(digits, pads, octet):
                longer = taken(before)
                self.assertIs(longer.take(octet), True, (before, octet))
                self.assertIs(longer.is_whole, (len(before) + 1) % 4 == 0)
                self.assertEqual(longer.octets, expected_octets(bytes([*before, octet]).rstrip(b"=")))
            else:
                self.assertIs(taker.take(octet), False, (before, octet))
                self.assertIs(taker.is_whole, len(before) % 4 == 0)
                self.assertEqual(taker.octets, expected_octets(digits))

    def test_nothing_taken(self):
        taker = Base64()
        self.assertIs(taker.is_whole, True)
        self.assertEqual(taker.octets, [])

    def test_each_octet_behind_short_ones(self):
        for before in (b"", b"A", b"AA", b"AAA", b"AAAA", b"AAAAA", b"AAAAAA", b"AAAAAAA", b"AAAAAAAA"):
            self.check_each_octet_behind(before)

    def test_each_octet_behind_pads(self):
        for before in (b"AA=", b"AA==", b"AAA=", b"/w==", b"/w=", b"//8=", b"AAAAAA=", b"AAAAAA==", b"AAAAAAA="):
            self.check_each_octet_behind(before)

    def test_pads_too_early(self):
        for before in (b"", b"A", b"AAAA", b"AAAAA"):
            self.assertIs(taken(before).take(PAD), False)

    def test_pads_too_often(self):
        for before in (b"AA==", b"AAA=", b"AAAAAA==", b"AAAAAAA="):
            self.assertIs(taken(before).take(PAD), False)

    def test_left_bits(self):
        for worth, digit in enumerate(DIGITS):
            self.assertIs(taken([65, digit]).take(PAD), worth % 16 == 0)
            self.assertIs(taken([65, 66, digit]).take(PAD), worth % 4 == 0)
            self.assertIs(taken([digit, 65]).take(PAD), True)
            self.assertIs(taken([65, digit, 65]).take(PAD), True)
            self.assertIs(taken([digit, digit, digit, digit, 65, digit]).take(PAD), worth % 16 == 0)

    def test_digit_behind_a_pad(self):
        for before in (b"AA=", b"AA==", b"AAA="):
            for digit in DIGITS:
                self.assertIs(taken(before).take(digit), False)

    def test_each_digit_pair(self):
        for first in DIGITS:
            for second in DIGITS:
                self.assertEqual(taken([first, second]).octets, expected_octets([first, second]))

    def test_whole_texts_octet_by_octet(self):
        chance = random.Random(9)
        for many in range(0, 31):
            octets = [chance.randint(0, 255) for _ in range(many)]
            written = base64.b64encode(bytes(octets))
            taker = Base64()
            for at, octet in enumerate(written):
                self.assertIs(taker.is_whole, at % 4 == 0)
                self.assertIs(taker.take(octet), True)
                self.assertEqual(taker.octets, expected_octets(written[:at + 1].rstrip(b"=")))
            self.assertIs(taker.is_whole, True)
            self.assertEqual(taker.octets, octets)

    def test_goes_on_behind_refused_octets(self):
        taker = Base64()
        for digit in b"TWFu":
            for wrong in (0, 32, 10, 45, 95, 64, 91, 96, 123, 47 - 1, 58, 255):
                self.assertIs(taker.take(wrong), False)
            self.assertIs(taker.take(digit), True)
        self.assertEqual(bytes(taker.octets), b"Man")

    def test_two_side_by_side(self):
        first, second = Base64(), Base64()
        for one, two in zip(b"TWFu", b"QUI="):
            self.assertTrue(first.take(one))
            self.assertTrue(second.take(two))
        self.assertEqual((bytes(first.octets), bytes(second.octets)), (b"Man", b"AB"))

    def test_at_random(self):
        chance = random.Random(10)
        pool = list(b"AAAAQg/w8+=== ")
        for _ in range(3000):
            taker, digits, pads = Base64(), b"", 0
            for _ in range(12):
                octet = chance.choice(pool)
                wanted = can_stand(digits, pads, octet)
                self.assertIs(taker.take(octet), wanted)
                if wanted and octet == PAD:
                    pads += 1
                elif wanted:
                    digits += bytes([octet])
                self.assertIs(taker.is_whole, (len(digits) + pads) % 4 == 0)
            self.assertEqual(taker.octets, expected_octets(digits))


if __name__ == "__main__":
    unittest.main()
