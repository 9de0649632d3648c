import random
import struct
import unittest

from formsalike.orders import by_points, by_units, units


def expected_units(points):
    octets = "".join(map(chr, points)).encode("utf-16-be")
    return list(struct.unpack(">%dH" % (len(octets) // 2), octets))


# In ascending order of their code points.
KEYS = [(), (0,), (97,), (97, 97), (97, 0xD7FF), (97, 0xE000), (97, 0xFFFF), (97, 0x10000), (97, 0x1F600),
        (97, 0x1F600, 0), (97, 0x10FFFF), (98,), (0xD7FF,), (0xE000,), (0xFF21,), (0xFFFF,), (0x10000,),
        (0x10000, 0), (0x10000, 0x10000), (0x10001,), (0x1F600,), (0x10FFFF,)]


class UnitsTest(unittest.TestCase):
    def test_edges(self):
        self.assertEqual(units(()), [])
        self.assertEqual(units([]), [])
        self.assertEqual(units((0, 97, 0xD7FF, 0xE000, 0xFFFF)), [0, 97, 0xD7FF, 0xE000, 0xFFFF])
        self.assertEqual(units((0x10000,)), [0xD800, 0xDC00])
        self.assertEqual(units([0x103FF, 0x10400]), [0xD800, 0xDFFF, 0xD801, 0xDC00])
        self.assertEqual(units((0x10FFFF, 97)), [0xDBFF, 0xDFFF, 97])
        self.assertEqual(units((0x1F600,)), [0xD83D, 0xDE00])

    def test_at_random(self):
        chance = random.Random(11)
        for _ in range(500):
            points = [chance.choice([97, 0xD7FF, 0xE000, chance.randint(0x10000, 0x10FFFF)]) for _ in range(6)]
            before = list(points)
            self.assertEqual(units(points), expected_units(points))
            self.assertEqual(units(tuple(points)), expected_units(points))
            self.assertEqual(points, before)

    def test_returns_a_new_list(self):
        points = [97, 98]
        found = units(points)
        found.append(99)
        self.assertEqual(points, [97, 98])
        self.assertEqual(units(points), [97, 98])


class OrdersTest(unittest.TestCase):
    def test_example_of_the_document(self):
        entries = [((0x1F600,), 1), ((0xFF21,), 2)]
        self.assertEqual([entry[1] for entry in by_units(entries)], [1, 2])
        self.assertEqual([entry[1] for entry in by_points(entries)], [2, 1])

    def test_empty(self):
        for order in (by_units, by_points):
            self.assertEqual(order([]), [])
            self.assertEqual(order(()), [])

    def test_keys_in_any_order(self):
        chance = random.Random(12)
        in_points = [(key, ("null",)) for key in KEYS]
        in_units = sorted(in_points, key=lambda entry: expected_units(entry[0]))
        self.assertNotEqual(in_points, in_units)
        for _ in range(100):
            entries = list(in_points)
            chance.shuffle(entries)
            before = list(entries)
            self.assertEqual(by_points(entries), in_points)
            self.assertEqual(by_units(entries), in_units)
            self.assertEqual(by_points(tuple(entries)), in_points)
            self.assertEqual(by_units(tuple(entries)), in_units)
            self.assertEqual(entries, before)

    def test_common_beginnings_and_the_empty_key(self):
        entries = [((97, 98), 1), ((97,), 2), ((), 3), ((97, 97, 97), 4)]
        for order in (by_units, by_points):
            self.assertEqual([entry[1] for entry in order(entries)], [3, 2, 4, 1])

    def test_values_are_not_compared(self):
        entries = [((98,), None), ((97,), "x"), ((99,), 5)]
        for order in (by_units, by_points):
            self.assertEqual([entry[1] for entry in order(entries)], ["x", None, 5])

    def test_returns_a_new_list(self):
        entries = [((97,), 1), ((98,), 2)]
        for order in (by_units, by_points):
            found = order(entries)
            self.assertIsInstance(found, list)
            found.clear()
            self.assertEqual(entries, [((97,), 1), ((98,), 2)])


if __name__ == "__main__":
    unittest.main()
