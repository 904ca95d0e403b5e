"""Point 2: the errors."""

import unittest

from ringbound.errors import NotValid, RingError


class Errors(unittest.TestCase):
    def test_classes(self):
        self.assertEqual(RingError.__bases__, (ValueError,))
        self.assertEqual(NotValid.__bases__, (RingError,))

    def test_they_take_no_argument(self):
        self.assertIsInstance(RingError(), ValueError)
        self.assertIsInstance(NotValid(), RingError)
        for error in (RingError, NotValid):
            with self.assertRaises(TypeError):
                error("word")

    def test_they_are_caught_by_their_bases(self):
        for base in (NotValid, RingError, ValueError):
            with self.assertRaises(base):
                raise NotValid()


if __name__ == "__main__":
    unittest.main()
