import unittest

from helper import REFUSALS
from shareparley import errors


class TestErrors(unittest.TestCase):
    def test_share_error_is_a_value_error(self):
        self.assertEqual(errors.ShareError.__bases__, (ValueError,))

    def test_each_refusal_is_straight_under_share_error(self):
        for name in REFUSALS:
            with self.subTest(name=name):
                self.assertEqual(getattr(errors, name).__bases__, (errors.ShareError,))
                self.assertEqual(getattr(errors, name).__name__, name)

    def test_none_is_under_another(self):
        for name in REFUSALS:
            for other in REFUSALS:
                with self.subTest(name=name, other=other):
                    below = issubclass(getattr(errors, name), getattr(errors, other))
                    self.assertEqual(below, name == other)

    def test_each_is_taken_as_share_error_and_as_value_error(self):
        for name in REFUSALS:
            for taken in (errors.ShareError, ValueError):
                with self.subTest(name=name, taken=taken):
                    with self.assertRaises(taken):
                        raise getattr(errors, name)(0)

    def test_no_text_tells_the_part(self):
        for part in (0, 1, 7, 13):
            with self.subTest(part=part):
                with self.assertRaises(errors.NoText) as seen:
                    raise errors.NoText(part)
                self.assertEqual(seen.exception.part, part)

    def test_each_no_text_has_a_part_of_its_own(self):
        first = errors.NoText(2)
        second = errors.NoText(5)
        self.assertEqual((first.part, second.part), (2, 5))


if __name__ == "__main__":
    unittest.main()
