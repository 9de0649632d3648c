import unittest

from formsalike.errors import AlikeError, Doubled, Unreadable, Unwritable

KINDS = [Unreadable, Unwritable, Doubled]


class ErrorsTest(unittest.TestCase):
    def test_base_class_is_a_value_error(self):
        self.assertTrue(issubclass(AlikeError, ValueError))

    def test_kinds_stand_under_the_base_class_and_not_under_each_other(self):
        for kind in KINDS:
            self.assertTrue(issubclass(kind, AlikeError))
            for other in KINDS:
                self.assertEqual(issubclass(kind, other), kind is other)

    def test_what_is_the_argument(self):
        for kind in [AlikeError] + KINDS:
            for what in (0, 17, (), (97, 98), "word"):
                self.assertEqual(kind(what).what, what)
                self.assertEqual(kind(what=what).what, what)

    def test_what_is_none_without_an_argument(self):
        for kind in [AlikeError] + KINDS:
            self.assertIsNone(kind().what)

    def test_raised_and_caught_by_the_base_class(self):
        for kind in KINDS:
            with self.assertRaises(AlikeError) as caught:
                raise kind(5)
            self.assertEqual(caught.exception.what, 5)


if __name__ == "__main__":
    unittest.main()
