import unittest

from latestrows import limits

VALUES = {
    "MAX_LOOKS": 3,
    "MAX_GRID_TIMES": 2,
    "MAX_PARTS": 20,
    "MAX_DEPTH": 8,
    "MAX_STEP": 60,
    "MAX_DISTANCE": 1000000000,
    "MAX_COLUMNS": 4,
}


class LimitsTest(unittest.TestCase):
    def test_each_constant_has_its_value(self):
        for name, value in VALUES.items():
            with self.subTest(name):
                found = getattr(limits, name)
                self.assertIs(type(found), int)
                self.assertEqual(found, value)


if __name__ == "__main__":
    unittest.main()
