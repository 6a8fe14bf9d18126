"""Layers, plans, and the split of what a layer pays: promises 1 to 4."""

import unittest
from itertools import product

from claimlayers import plans
from claimlayers.plans import is_layer, is_plan, split
from tests.things import OTHER_THINGS

LAYER = (100, 300, (1, 2, 3))
PLAN = (50, (LAYER, (200, 200, (5,))))


class Layers(unittest.TestCase):
    def assert_layer(self, expected, thing):
        self.assertIs(is_layer(thing), expected, repr(thing)[:200])

    def test_ordinary_layers(self):
        for thing in (LAYER, (1, 1, (1,)), (300, 100, (7, 7)), (5, 5, (1, 10 ** 6, 1))):
            self.assert_layer(True, thing)

    def test_the_most_for_one_damage(self):
        for most, expected in ((0, False), (1, True), (10 ** 15, True), (10 ** 15 + 1, False), (-1, False)):
            self.assert_layer(expected, (most, 300, (1, 2)))

    def test_the_most_for_one_year(self):
        for year, expected in ((0, False), (1, True), (10 ** 18, True), (10 ** 18 + 1, False), (-1, False)):
            self.assert_layer(expected, (100, year, (1, 2)))

    def test_how_many_weights(self):
        for count, expected in ((0, False), (1, True), (2, True), (8, True), (9, True), (10, False), (500, False)):
            self.assert_layer(expected, (100, 300, (4,) * count))

    def test_each_weight_at_each_place(self):
        for weight, expected in ((0, False), (1, True), (10 ** 6, True), (10 ** 6 + 1, False), (-1, False)):
            for place in range(9):
                weights = [3] * 9
                weights[place] = weight
                self.assert_layer(expected, (100, 300, tuple(weights)))

    def test_other_things_are_no_layers(self):
        for thing in OTHER_THINGS:
            self.assert_layer(False, thing)

    def test_other_things_at_the_places_of_numbers(self):
        for thing in OTHER_THINGS + ((5,), [5]):
            self.assert_layer(False, (thing, 300, (1,)))
            self.assert_layer(False, (100, thing, (1,)))
            self.assert_layer(False, (100, 300, (thing,)))
            self.assert_layer(False, (100, 300, (1, thing)))

    def test_other_things_at_the_place_of_weights(self):
        for thing in (None, True, False, 1, "1", "123", b"123", [1, 2], {1: 1}, {1, 2}, range(1, 3)):
            self.assert_layer(False, (100, 300, thing))

    def test_a_list_in_place_of_the_tuple(self):
        self.assert_layer(False, list(LAYER))

    def test_more_or_fewer_things(self):
        for thing in ((100,), (100, 300), (100, 300, (1, 2), 1), (100, 300, (1, 2), ()), LAYER * 2):
            self.assert_layer(False, thing)

    def test_what_is_handed_in_stays_as_it_is(self):
        thing = [100, 300, [1, 2]]
        is_layer(thing)
        is_layer((100, 300, thing[2]))
        self.assertEqual(thing, [100, 300, [1, 2]])


class Plans(unittest.TestCase):
    def assert_plan(self, expected, thing):
        self.assertIs(is_plan(thing), expected, repr(thing)[:200])

    def test_ordinary_plans(self):
        for thing in (PLAN, (0, ()), (0, (LAYER,)), (7, ((1, 1, (1,)), LAYER, LAYER))):
            self.assert_plan(True, thing)

    def test_the_own_part(self):
        for own, expected in ((-1, False), (0, True), (1, True), (10 ** 15, True), (10 ** 15 + 1, False)):
            self.assert_plan(expected, (own, (LAYER,)))
            self.assert_plan(expected, (own, ()))

    def test_how_many_layers(self):
        for count, expected in ((0, True), (1, True), (8, True), (9, True), (10, False), (300, False)):
            self.assert_plan(expected, (50, (LAYER,) * count))

    def test_each_layer_is_one(self):
        for wrong in ((0, 300, (1,)), (100, 0, (1,)), (100, 300, ()), (100, 300, [1]), list(LAYER), (True, 1, (1,))):
            for place in range(9):
                layers = [LAYER] * 9
                layers[place] = wrong
                self.assert_plan(False, (50, tuple(layers)))

    def test_other_things_are_no_plans(self):
        for thing in OTHER_THINGS + (LAYER, (LAYER,)):
            self.assert_plan(False, thing)

    def test_other_things_at_each_place(self):
        for thing in OTHER_THINGS:
            self.assert_plan(False, (thing, (LAYER,)))
            self.assert_plan(False, (50, (thing,)))
            self.assert_plan(False, (50, (LAYER, thing)))
            # A plan may have no layers.
            if repr(thing) != "()":
                self.assert_plan(False, (50, thing))

    def test_a_list_in_place_of_a_tuple(self):
        for thing in (list(PLAN), (50, [LAYER]), (50, []), [50, ()], (50, LAYER)):
            self.assert_plan(False, thing)

    def test_more_or_fewer_things(self):
        for thing in ((50,), ((LAYER,),), (50, (LAYER,), 1), (50, (LAYER,), ()), PLAN * 2):
            self.assert_plan(False, thing)

    def test_what_is_handed_in_stays_as_it_is(self):
        thing = [50, [[100, 300, [1, 2]]]]
        is_plan(thing)
        is_plan((50, thing[1]))
        self.assertEqual(thing, [50, [[100, 300, [1, 2]]]])


class Split(unittest.TestCase):
    def assert_split(self, paid, weights):
        """Ask for all that promise 4 says of the parts of one sum."""
        parts = split(paid, weights)
        self.assertIs(type(parts), list)
        self.assertEqual(len(parts), len(weights))
        for part in parts:
            self.assertIs(type(part), int)
            self.assertGreaterEqual(part, 0)
        for count in range(len(weights) + 1):
            expected = paid * sum(weights[:count]) // sum(weights)
            self.assertEqual(sum(parts[:count]), expected, (paid, weights, count))
        self.assertEqual(sum(parts), paid)

    def test_worked_by_hand(self):
        self.assertEqual(split(100, (1,)), [100])
        self.assertEqual(split(100, (1, 1, 1)), [33, 33, 34])
        self.assertEqual(split(10, (1, 2, 3)), [1, 4, 5])
        self.assertEqual(split(10, (3, 2, 1)), [5, 3, 2])
        self.assertEqual(split(1, (1, 1, 1, 1)), [0, 0, 0, 1])
        self.assertEqual(split(2, (1, 1, 1)), [0, 1, 1])
        self.assertEqual(split(7, (10 ** 6, 1)), [6, 1])
        self.assertEqual(split(0, (4, 5)), [0, 0])

    def test_small_sums_and_weights_all_through(self):
        for count in range(1, 4):
            for weights in product(range(1, 6), repeat=count):
                for paid in range(25):
                    self.assert_split(paid, weights)

    def test_the_least_and_the_greatest(self):
        for paid in (0, 1, 2, 10 ** 15, 10 ** 18 - 1, 10 ** 18):
            for count in range(1, 10):
                for least, most in ((1, 1), (10 ** 6, 10 ** 6), (1, 10 ** 6), (10 ** 6, 1), (999_983, 7)):
                    self.assert_split(paid, (least,) + (most,) * (count - 1))
                self.assert_split(paid, tuple(range(1, count + 1)))

    def test_numbers_too_large_for_a_number_with_a_point(self):
        self.assertEqual(split(10 ** 18, (1, 2)), [333333333333333333, 666666666666666667])
        self.assertEqual(split(10 ** 18 - 1, (10 ** 6,)), [10 ** 18 - 1])

    def test_somewhat_beyond_the_bounds_is_no_error(self):
        self.assert_split(10 ** 18 + 1, (3, 4))
        self.assert_split(10 ** 20 + 7, (10 ** 6 + 1, 10 ** 7, 1))
        self.assert_split(1000, tuple(range(1, 11)))
        self.assert_split(1000, (0, 3, 0))
        self.assertEqual(split(1000, ()), [])
        self.assertEqual(split(0, ()), [])
        for weights in ((0,), (0, 0, 0), (-1, 1)):
            parts = split(1000, weights)
            self.assertEqual((len(parts), sum(parts)), (len(weights), 1000))

    def test_each_list_is_a_new_one(self):
        weights = (1, 2, 3)
        first = split(60, weights)
        second = split(60, weights)
        self.assertIsNot(first, second)
        first.append(99)
        first[0] = 77
        self.assertEqual(second, [10, 20, 30])
        self.assertEqual(split(60, weights), [10, 20, 30])

    def test_what_is_handed_in_stays_as_it_is(self):
        for weights in ([1, 2, 3], [0, 0]):
            before = list(weights)
            parts = split(60, weights)
            self.assertIsNot(parts, weights)
            parts[0] = 77
            self.assertEqual(weights, before)


class Interface(unittest.TestCase):
    def test_they_are_defined_in_their_file(self):
        for name in ("is_layer", "is_plan", "split"):
            self.assertEqual(getattr(plans, name).__module__, "claimlayers.plans")

    def test_arguments_have_their_names(self):
        self.assertIs(is_layer(thing=LAYER), True)
        self.assertIs(is_plan(thing=PLAN), True)
        self.assertEqual(split(paid=6, weights=(1, 1)), [3, 3])


if __name__ == "__main__":
    unittest.main()
