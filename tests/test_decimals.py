import random
import unittest
from fractions import Fraction

from formsalike.decimals import from_binary, layout, normal, whole


def long_digits(m):
    """The digits of an integer of more digits than str takes at once."""
    pieces = []
    while m >= 10 ** 1000:
        m, piece = divmod(m, 10 ** 1000)
        pieces.append(str(piece).zfill(1000))
    return "".join([str(m)] + pieces[::-1])


class NormalTest(unittest.TestCase):
    def test_small(self):
        self.assertEqual(normal(1500, -2), (15, 0))
        self.assertEqual(normal(1, 0), (1, 0))
        self.assertEqual(normal(10, 0), (1, 1))
        self.assertEqual(normal(101, -7), (101, -7))
        self.assertEqual(normal(-1500, 4), (-15, 6))
        self.assertEqual(normal(-7, 3), (-7, 3))

    def test_zero_has_the_exponent_zero(self):
        for e in (0, 1, -1, 500, 10 ** 1000 - 1, -(10 ** 1000) + 1):
            self.assertEqual(normal(0, e), (0, 0))

    def test_any_number_of_zeros(self):
        for zeros in list(range(0, 200)) + [639, 640, 641, 1990, 3000]:
            for m in (7, -7, 123456789, -11):
                self.assertEqual(normal(m * 10 ** zeros, -5), (m, zeros - 5))

    def test_result_is_a_pair_and_stays(self):
        for m, e in [(0, 9), (1500, -2), (-40, 3), (2 ** 300, 1), (10 ** 77, 10 ** 50)]:
            pair = normal(m, e)
            self.assertIsInstance(pair, tuple)
            self.assertEqual(normal(*pair), pair)

    def test_large(self):
        big = 10 ** 2000 - 1
        far = 10 ** 1000 - 1
        for sign in (1, -1):
            self.assertEqual(normal(sign * big, far), (sign * big, far))
            self.assertEqual(normal(sign * big, -far), (sign * big, -far))
            self.assertEqual(normal(sign * 10 ** 1999, far), (sign, far + 1999))
            self.assertEqual(normal(sign * 34 * 10 ** 1998, -far), (sign * 34, 1998 - far))

    def test_worth_stays_and_m_is_not_divisible(self):
        chance = random.Random(1)
        for _ in range(300):
            m = chance.randint(-10 ** 6, 10 ** 6) * 10 ** chance.randint(0, 70)
            e = chance.randint(-50, 50)
            n, f = normal(m, e)
            self.assertEqual(Fraction(n) * Fraction(10) ** f, Fraction(m) * Fraction(10) ** e)
            self.assertTrue(n % 10 != 0 or (n, f) == (0, 0))


class FromBinaryTest(unittest.TestCase):
    def check(self, m, two):
        n, e = from_binary(m, two)
        left = n * 10 ** max(e, 0) * 2 ** max(-two, 0)
        right = m * 2 ** max(two, 0) * 10 ** max(-e, 0)
        self.assertEqual(left, right, (m, two))
        self.assertTrue(n % 10 != 0 or (n, e) == (0, 0), (m, two))

    def test_every_two(self):
        for two in range(-1100, 1101):
            for m in (1, -1, 6, -25):
                self.check(m, two)

    def test_zero(self):
        for two in (-1100, -1, 0, 1, 1100):
            self.assertEqual(from_binary(0, two), (0, 0))

    def test_odd_and_even_and_large(self):
        chance = random.Random(2)
        for two in (-1100, -1099, -64, -2, -1, 0, 1, 2, 64, 1099, 1100):
            for m in (2, 3, 5, 10, 1024, 2 ** 53 - 1, 2 ** 53, 5 ** 40, 10 ** 2000 - 1, 10 ** 1999):
                self.check(m, two)
                self.check(-m, two)
            self.check(chance.randint(-10 ** 2000, 10 ** 2000), two)

    def test_known(self):
        self.assertEqual(from_binary(1, -1), (5, -1))
        self.assertEqual(from_binary(1, -3), (125, -3))
        self.assertEqual(from_binary(-3, 1), (-6, 0))
        self.assertEqual(from_binary(5, 1), (1, 1))


class WholeTest(unittest.TestCase):
    def test_within_the_bound(self):
        self.assertEqual(whole(15, 0, 0), 15)
        self.assertEqual(whole(15, 3, 64), 15000)
        self.assertEqual(whole(-15, 64, 64), -15 * 10 ** 64)
        self.assertEqual(whole(7, 800, 800), 7 * 10 ** 800)
        for e in range(0, 801):
            self.assertEqual(whole(-3, e, 800), -3 * 10 ** e)

    def test_outside_of_the_bound(self):
        self.assertIsNone(whole(15, -1, 64))
        self.assertIsNone(whole(15, 65, 64))
        self.assertIsNone(whole(15, 801, 800))
        self.assertIsNone(whole(15, 1, 0))

    def test_zero(self):
        self.assertEqual(whole(0, 0, 64), 0)
        self.assertEqual(whole(0, 0, 0), 0)
        self.assertEqual(whole(0, 5, 64), 0)

    def test_zero_is_no_none(self):
        self.assertIsNotNone(whole(0, 0, 800))

    def test_exponents_of_many_digits(self):
        for m in (1, -1, 10 ** 2000 - 1):
            self.assertIsNone(whole(m, 10 ** 1000 - 1, 800))
            self.assertIsNone(whole(m, -(10 ** 1000) + 1, 800))

    def test_large(self):
        big = 10 ** 2000 - 1
        self.assertEqual(whole(big, 800, 800), big * 10 ** 800)
        self.assertEqual(whole(-big, 0, 800), -big)


class LayoutTest(unittest.TestCase):
    def check(self, m, e, expected):
        self.assertEqual(layout(m, e), expected)
        if m != 0:
            self.assertEqual(layout(-m, e), "-" + expected)

    def test_zero(self):
        self.check(0, 0, "0")

    def test_examples_of_the_document(self):
        self.check(15, 0, "15")
        self.check(15, -1, "1.5")
        self.check(15, -8, "1.5e-7")
        self.assertEqual(layout(-15, 30), "-1.5e+31")

    def test_with_zeros_behind(self):
        self.check(1, 0, "1")
        self.check(12, 3, "12000")
        self.check(1, 20, "1" + "0" * 20)
        self.check(123, 18, "123" + "0" * 18)
        self.check(10 ** 20 + 1, 0, str(10 ** 20 + 1))

    def test_from_22_digits_with_an_exponent(self):
        self.check(1, 21, "1e+21")
        self.check(123, 19, "1.23e+21")
        self.check(10 ** 21 + 1, 0, "1.000000000000000000001e+21")

    def test_with_a_point_inside(self):
        self.check(12345, -2, "123.45")
        self.check(12345, -4, "1.2345")
        self.check(12, -1, "1.2")
        digits = "123456789012345678901234567"
        self.check(int(digits), -6, digits[:21] + "." + digits[21:])
        self.check(int(digits), -5, "1." + digits[1:] + "e+21")
        self.check(int(digits[:22]), -1, digits[:21] + "." + digits[21])

    def test_with_zeros_before(self):
        self.check(5, -1, "0.5")
        self.check(15, -2, "0.15")
        self.check(15, -3, "0.015")
        self.check(1, -6, "0.000001")
        self.check(15, -7, "0.0000015")
        self.check(123456789, -14, "0.00000123456789")

    def test_smaller_ones_with_an_exponent(self):
        self.check(1, -7, "1e-7")
        self.check(15, -8, "1.5e-7")
        self.check(123456789, -15, "1.23456789e-7")

    def test_one_digit_has_no_point(self):
        self.check(7, 100, "7e+100")
        self.check(7, -100, "7e-100")
        self.check(71, 100, "7.1e+101")

    def test_every_place_of_the_point(self):
        for digits in ("1", "12", "123456789", "1234567890123456789012345"):
            k = len(digits)
            for n in range(-30, 50):
                if n > 21 or n <= -6:
                    mantissa = digits[0] + ("." + digits[1:] if k > 1 else "")
                    expected = "%se%+d" % (mantissa, n - 1)
                elif n >= k:
                    expected = digits + "0" * (n - k)
                elif n > 0:
                    expected = digits[:n] + "." + digits[n:]
                else:
                    expected = "0." + "0" * (-n) + digits
                self.check(int(digits), n - k, expected)

    def test_large(self):
        big = 10 ** 2000 - 3
        far = 10 ** 1000 - 1
        self.check(big, 0, "9." + "9" * 1998 + "7e+1999")
        self.check(big, far, "9." + "9" * 1998 + "7e+" + str(far + 1999))
        self.check(big, -far, "9." + "9" * 1998 + "7e-" + str(far - 1999))
        self.check(big, -2000, "0." + "9" * 1999 + "7")
        self.check(big, -1990, "9" * 10 + "." + "9" * 1989 + "7")

    def test_more_digits_than_python_turns_at_once(self):
        for many in (63, 64, 65, 128, 129, 4999, 6000):
            m = 10 ** many + 1
            self.assertEqual(layout(m, -many - 1), "0." + long_digits(m))


if __name__ == "__main__":
    unittest.main()
