"""The bounds of the interface."""

import unittest

from likehouses import bounds

VALUES = {
    "MOST_ROOMS": 6, "MOST_DOORS": 12, "MOST_PRICE": 99, "MOST_ODD": 8,
    "FAR_FIRST": 50, "FAR_STAND": 60, "MOST_ROWS": 2000,
    "MOST_TIMES": 1000000000000000000000000000000000000000000000000000000000000,
    "FAR_FENCE": 999, "MOST_STRETCH": 999, "MOST_ROUND": 60, "MOST_LOTS": 6, "MOST_SPOTS": 2000,
}


class Bounds(unittest.TestCase):

    def test_each_has_its_value(self):
        for name, worth in VALUES.items():
            with self.subTest(name):
                told = getattr(bounds, name)
                self.assertIs(type(told), int)
                self.assertEqual(told, worth)


if __name__ == "__main__":
    unittest.main()
