import unittest

from forthback import limits


class Limits(unittest.TestCase):
    def test_most_lane(self):
        self.assertIs(type(limits.MOST_LANE), int)
        self.assertEqual(limits.MOST_LANE, 400)


if __name__ == "__main__":
    unittest.main()
