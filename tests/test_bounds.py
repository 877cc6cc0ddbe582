import unittest

from passingsums import bounds
from samples import shown

WANTED = {
    "MAX_CELLS": 8,
    "MAX_ROWS": 8,
    "MAX_TIMES": 10 ** 6,
    "MAX_RUNS": 100,
    "MAX_DEEDS": 6,
    "MAX_DONE": 40,
    "MAX_READERS": 8,
}


class Bounds(unittest.TestCase):
    def test_values(self):
        for name, value in WANTED.items():
            with self.subTest(name):
                self.assertEqual(shown(getattr(bounds, name)), shown(value))


if __name__ == "__main__":
    unittest.main()
