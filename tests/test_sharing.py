"""The share of one amount: promises 1 and 7."""

import unittest
from itertools import product

from claimlayers.sharing import behind, shared
from tests.model import assert_holds, expected_share

# The own part is 100; 50 of each damage and 120 of each year, then 200 and 300.
PLAN = (100, ((50, 120, (1, 2)), (200, 300, (1,))))


class Shared(unittest.TestCase):
    def assert_shared(self, expected, used, amount, plan=PLAN):
        share = shared(plan, used, amount)
        self.assertEqual(share, expected)
        assert_holds(self, plan, used, amount, share)

    def test_nought(self):
        self.assert_shared((0, [0, 0], 0), [0, 0], 0)
        self.assert_shared((0, [0, 0], 0), [120, 300], 0)
        self.assert_shared((0, [], 0), [], 0, (100, ()))

    def test_an_amount_below_at_and_beyond_the_own_part(self):
        self.assert_shared((1, [0, 0], 0), [0, 0], 1)
        self.assert_shared((99, [0, 0], 0), [0, 0], 99)
        self.assert_shared((100, [0, 0], 0), [0, 0], 100)
        self.assert_shared((100, [1, 0], 0), [0, 0], 101)

    def test_an_own_part_of_nought(self):
        self.assert_shared((0, [1, 0], 0), [0, 0], 1, (0, PLAN[1]))
        self.assert_shared((0, [50, 10], 0), [0, 0], 60, (0, PLAN[1]))

    def test_a_layers_most_is_the_limit(self):
        self.assert_shared((100, [49, 0], 0), [0, 0], 149)
        self.assert_shared((100, [50, 0], 0), [0, 0], 150)
        self.assert_shared((100, [50, 1], 0), [0, 0], 151)
        self.assert_shared((100, [50, 200], 0), [0, 0], 350)

    def test_what_is_left_of_a_layers_year_is_the_limit(self):
        self.assert_shared((100, [50, 10], 0), [70, 0], 160)
        self.assert_shared((100, [49, 11], 0), [71, 0], 160)
        self.assert_shared((100, [1, 59], 0), [119, 0], 160)
        self.assert_shared((100, [50, 100], 50), [0, 200], 300)

    def test_a_year_that_is_less_than_the_most(self):
        plan = (10, ((500, 30, (1,)), (500, 40, (1,))))
        self.assert_shared((10, [30, 40], 20), [0, 0], 100, plan)
        self.assert_shared((10, [5, 40], 45), [25, 0], 100, plan)

    def test_a_year_that_is_wholly_used(self):
        self.assert_shared((100, [0, 60], 0), [120, 0], 160)
        self.assert_shared((100, [50, 0], 10), [0, 300], 160)
        self.assert_shared((100, [0, 0], 60), [120, 300], 160)

    def test_no_layers(self):
        self.assert_shared((99, [], 0), [], 99, (100, ()))
        self.assert_shared((100, [], 0), [], 100, (100, ()))
        self.assert_shared((100, [], 23), [], 123, (100, ()))
        self.assert_shared((0, [], 123), [], 123, (0, ()))

    def test_something_is_left_behind_all_layers(self):
        self.assert_shared((100, [50, 200], 1), [0, 0], 351)
        self.assert_shared((100, [50, 200], 650), [0, 0], 1000)

    def test_the_greatest_numbers(self):
        most = 10 ** 15
        plan = (most, ((most, 10 ** 18, (10 ** 6,)),) * 9)
        self.assert_shared((most, [0] * 9, 0), [0] * 9, most, plan)
        self.assert_shared((0, [most] + [0] * 8, 0), [0] * 9, most, (0, plan[1]))
        self.assert_shared((0, [0] * 8 + [most], 0), [10 ** 18] * 8 + [10 ** 18 - most], most, (0, plan[1]))
        self.assert_shared((0, [1] * 9, most - 9), [10 ** 18 - 1] * 9, most, (0, plan[1]))

    def test_small_plans_all_through(self):
        numbers = (1, 2, 5)
        for own, most, year, upper in product((0, 1, 3), numbers, numbers, numbers):
            plan = (own, ((most, year, (1,)), (upper, 4, (1,))))
            for lower_used, upper_used, amount in product(range(year + 1), (0, 1, 4), range(15)):
                used = [lower_used, upper_used]
                self.assert_shared(expected_share(plan, used, amount), used, amount, plan)

    def test_what_is_handed_in_stays_as_it_is(self):
        used = [70, 10]
        own, paid, left = shared(PLAN, used, 1000)
        self.assertEqual(used, [70, 10])
        paid[0] = 99
        paid.append(5)
        self.assertEqual(used, [70, 10])
        self.assertEqual(shared(PLAN, used, 1000), (100, [50, 200], 650))

    def test_somewhat_beyond_the_bounds_is_no_error(self):
        plan = (10 ** 16, ((10 ** 16, 10 ** 19, (1,)),) * 11)
        self.assert_shared((10 ** 16, [10 ** 16] * 11, 5), [0] * 11, 12 * 10 ** 16 + 5, plan)
        own, paid, left = shared(PLAN, [130, 0], 160)
        self.assertEqual(own + sum(paid) + left, 160)


class Behind(unittest.TestCase):
    def test_layer_by_layer(self):
        self.assertEqual(behind([1, 20, 300], [4, 50, 600]), [5, 70, 900])
        self.assertEqual(behind([0, 7], [3, 0]), [3, 7])
        self.assertEqual(behind([5], [0]), [5])

    def test_no_layers(self):
        self.assertEqual(behind([], []), [])

    def test_the_greatest_numbers(self):
        self.assertEqual(behind([10 ** 18 - 10 ** 15] * 9, [10 ** 15] * 9), [10 ** 18] * 9)

    def test_what_is_handed_in_stays_as_it_is(self):
        used, paid = [1, 2], [3, 4]
        told = behind(used, paid)
        told[0] = 99
        told.append(5)
        self.assertEqual((used, paid), ([1, 2], [3, 4]))
        self.assertEqual(behind(used, paid), [4, 6])
        nothing = behind(used, [0, 0])
        self.assertIsNot(nothing, used)


if __name__ == "__main__":
    unittest.main()
