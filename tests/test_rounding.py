"""Numbers: nearest and shares."""

import unittest
from random import Random

from paperschain.rounding import nearest, shares
from tests import helper


class Nearest(unittest.TestCase):
    def test_below_a_half_goes_down(self):
        self.assertEqual(nearest(14999, 10000), 1)
        self.assertEqual(nearest(1, 3), 0)

    def test_a_half_goes_up(self):
        self.assertEqual([nearest(k, 2) for k in range(7)], [0, 1, 1, 2, 2, 3, 3])
        self.assertEqual(nearest(25000, 10000), 3)

    def test_odd_parts_have_no_half(self):
        self.assertEqual([nearest(k, 3) for k in range(7)], [0, 0, 1, 1, 1, 2, 2])

    def test_great_numbers_are_exact(self):
        self.assertEqual(nearest(80000000000 * 5000 + 4999, 10000), 40000000000)
        self.assertEqual(nearest(10 ** 30 + 5, 10), 10 ** 29 + 1)


class Shares(unittest.TestCase):
    def test_even(self):
        self.assertEqual(shares(10, [1, 3, 1]), [2, 6, 2])

    def test_the_greatest_remainder_gets_the_unit(self):
        # 7/10 and 2.1 and 4.2: the remainders are 7, 1 and 2 tenths
        self.assertEqual(shares(7, [1, 3, 6]), [1, 2, 4])

    def test_equal_remainders_the_earlier_first(self):
        self.assertEqual(shares(1, [5, 5]), [1, 0])
        self.assertEqual(shares(2, [1, 1, 1]), [1, 1, 0])
        self.assertEqual(shares(5, [2, 2, 2, 2]), [2, 1, 1, 1])
        self.assertEqual(shares(2, [0, 1, 1, 1]), [0, 1, 1, 0])

    def test_a_weight_of_0_gets_nothing(self):
        self.assertEqual(shares(3, [0, 2, 0, 2]), [0, 2, 0, 1])

    def test_all_weights_0(self):
        self.assertEqual(shares(0, [0, 0]), [0, 0])
        self.assertEqual(shares(5, [0, 0, 0]), [0, 0, 0])

    def test_a_whole_of_0(self):
        self.assertEqual(shares(0, [3, 4]), [0, 0])

    def test_against_fractions(self):
        random = Random(1)
        for turn in range(500):
            weights = [random.choice((0, 1, 2, random.randrange(1000))) for k in range(random.randrange(1, 9))]
            whole = random.randrange(sum(weights) + 1)
            given = shares(whole, weights)
            self.assertEqual(given, helper.shares(whole, weights))
            self.assertEqual(sum(given), whole)


if __name__ == "__main__":
    unittest.main()
