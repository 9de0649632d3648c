import random
import struct
import unittest
from fractions import Fraction

from formsalike.floats import double, half, single


def expected(bits, size):
    """What Python says that the float is: a fraction, or None."""
    letters = {16: (">H", ">e"), 32: (">I", ">f"), 64: (">Q", ">d")}
    whole_letter, float_letter = letters[size]
    worth = struct.unpack(float_letter, struct.pack(whole_letter, bits))[0]
    if worth != worth or worth in (float("inf"), float("-inf")):
        return None
    return Fraction(worth)


class FloatsTest(unittest.TestCase):
    def check(self, told, bits, size):
        wanted = expected(bits, size)
        pair = told(bits)
        if wanted is None:
            self.assertIsNone(pair, bits)
            return
        m, e = pair
        self.assertIsInstance(pair, tuple)
        self.assertEqual(Fraction(m) * Fraction(10) ** e, wanted, bits)
        self.assertTrue(m % 10 != 0 or pair == (0, 0), bits)

    def check_edges(self, told, size, fraction_bits, field_bits):
        last = 2 ** field_bits - 1
        fractions = (0, 1, 2, 2 ** (fraction_bits - 1), 2 ** fraction_bits - 1)
        for sign in (0, 1):
            for field in (0, 1, 2, last // 2, last // 2 + 1, last - 1, last):
                for fraction in fractions:
                    self.check(told, ((sign << field_bits) + field << fraction_bits) + fraction, size)
            self.assertEqual(told(sign << (size - 1)), (0, 0))
            infinity = ((sign << field_bits) + last) << fraction_bits
            self.assertIsNone(told(infinity))
            self.assertIsNone(told(infinity + 1))
        self.assertIsNone(told(2 ** size - 1))

    def test_examples_of_the_document(self):
        self.assertEqual(half(0x4B20), (1425, -2))
        self.assertEqual(half(0x8000), (0, 0))
        self.assertIsNone(half(0x7C00))
        self.assertEqual(single(0x41C88000), (250625, -4))

    def test_half_with_all_bits(self):
        for bits in range(2 ** 16):
            self.check(half, bits, 16)

    def test_edges_of_half(self):
        self.check_edges(half, 16, 10, 5)

    def test_edges_of_single(self):
        self.check_edges(single, 32, 23, 8)

    def test_edges_of_double(self):
        self.check_edges(double, 64, 52, 11)

    def test_single_and_double_at_random(self):
        chance = random.Random(3)
        for _ in range(2000):
            self.check(single, chance.getrandbits(32), 32)
            self.check(double, chance.getrandbits(64), 64)

    def test_known_doubles(self):
        self.assertEqual(double(0x3FF0000000000000), (1, 0))
        self.assertEqual(double(0xC008000000000000), (-3, 0))
        self.assertEqual(double(0x3FE0000000000000), (5, -1))
        self.assertEqual(double(1), (5 ** 1074, -1074))


if __name__ == "__main__":
    unittest.main()
