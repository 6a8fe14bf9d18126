"""The damages of one year and their trails: promises 1, 8 and 9."""

import unittest
from itertools import permutations
from random import Random

from claimlayers.years import Year
from tests.model import assert_holds, expected_trail, expected_year

# The own part is 100; 50 of each damage and 120 of each year, then 200 and 300.
PLAN = (100, ((50, 120, (1, 2)), (200, 300, (1,))))
EARLY = (2020, 10, 7, 400)
SAME_DAY = (2020, 20, 3, 180)
LATER_NUMBER = (2020, 20, 12, 150)
LATE = (2020, 300, 1, 500)
DAMAGES = [EARLY, SAME_DAY, LATER_NUMBER, LATE]
SHARES = [
    (100, [50, 200], 50),
    (100, [50, 30], 0),
    (100, [20, 30], 0),
    (100, [0, 40], 360),
]
TRAILS = [
    [(0, 50, 50), (0, 200, 200)],
    [(50, 50, 100), (200, 30, 230)],
    [(100, 20, 120), (230, 30, 260)],
    [(120, 0, 120), (260, 40, 300)],
]


def year_of(damages, plan=PLAN):
    year = Year(plan)
    for damage in damages:
        year.put(damage)
    return year


class Years(unittest.TestCase):
    def assert_year(self, year, damages, plan=PLAN):
        """Ask for all that a year tells, where these damages stand there in this order."""
        self.assertEqual(year.damages(), damages)
        self.assertEqual(year.row, damages)
        told, used = expected_year(plan, damages)
        self.assertEqual(year.used(), used)
        reached = [0] * len(plan[1])
        for damage in damages:
            ahead, share = told[damage[2]]
            self.assertEqual(year.share(damage[2]), share)
            assert_holds(self, plan, ahead, damage[3], share)
            trail = year.trail(damage[2])
            self.assertEqual(trail, expected_trail(ahead, share[1]))
            self.assertEqual([step[0] for step in trail], reached)
            self.assertEqual([step[1] for step in trail], share[1])
            reached = [step[2] for step in trail]
        self.assertEqual(reached, used)

    def test_an_empty_year(self):
        year = Year(PLAN)
        self.assertEqual(year.plan, PLAN)
        self.assertEqual(year.row, [])
        self.assertEqual(year.damages(), [])
        self.assertEqual(year.used(), [0, 0])

    def test_worked_by_hand(self):
        year = year_of(DAMAGES)
        self.assertEqual(year.damages(), DAMAGES)
        for damage, share, trail in zip(DAMAGES, SHARES, TRAILS):
            self.assertEqual(year.share(damage[2]), share)
            self.assertEqual(year.trail(damage[2]), trail)
        self.assertEqual(year.used(), [120, 300])
        self.assert_year(year, DAMAGES)

    def test_kinds_of_what_is_told(self):
        year = year_of(DAMAGES)
        self.assertIs(type(year.row), list)
        self.assertIs(type(year.damages()), list)
        self.assertIs(type(year.used()), list)
        self.assertIs(type(year.share(7)), tuple)
        self.assertIs(type(year.share(7)[1]), list)
        self.assertIs(type(year.trail(7)), list)
        for step in year.trail(7):
            self.assertIs(type(step), tuple)

    def test_putting_and_dropping_answer_none(self):
        year = Year(PLAN)
        self.assertIsNone(year.put(EARLY))
        self.assertIsNone(year.drop(7))

    def test_put_in_any_order(self):
        for damages in permutations(DAMAGES):
            self.assert_year(year_of(damages), DAMAGES)

    def test_of_one_day_by_number(self):
        damages = [(2020, 5, number, amount) for number, amount in ((0, 9), (2, 160), (9, 140), (10, 130), (100, 1))]
        for order in permutations(damages):
            self.assert_year(year_of(order), damages)

    def test_the_day_goes_ahead_of_the_number(self):
        damages = [(2020, 9, 10 ** 9, 300), (2020, 10, 0, 300), (2020, 366, 5, 300)]
        for order in permutations(damages):
            self.assert_year(year_of(order), damages)

    def test_dropped(self):
        for order in permutations(DAMAGES):
            year = year_of(DAMAGES)
            left = list(DAMAGES)
            for damage in order:
                year.drop(damage[2])
                left.remove(damage)
                self.assert_year(year, left)
        self.assertEqual(year.used(), [0, 0])

    def test_a_number_is_free_again_behind_dropping(self):
        year = year_of(DAMAGES)
        year.drop(7)
        year.put((2020, 366, 7, 130))
        self.assert_year(year, [SAME_DAY, LATER_NUMBER, LATE, (2020, 366, 7, 130)])

    def test_the_share_of_a_later_one_changes_with_an_earlier_one(self):
        year = year_of([LATE])
        self.assertEqual(year.share(1), (100, [50, 200], 150))
        year.put((2020, 10, 7, 190))
        self.assertEqual(year.share(1), (100, [50, 200], 150))
        year.put((2020, 11, 8, 300))
        self.assertEqual(year.share(1), (100, [20, 110], 270))
        year.drop(8)
        year.put((2020, 11, 8, 101))
        self.assertEqual(year.share(1), (100, [50, 200], 150))
        year.drop(8)
        year.drop(7)
        self.assertEqual(year.share(1), (100, [50, 200], 150))

    def test_the_share_of_an_earlier_one_stays(self):
        year = year_of([EARLY])
        before = year.share(7)
        for damage in (SAME_DAY, LATE, LATER_NUMBER):
            year.put(damage)
            self.assertEqual(year.share(7), before)

    def test_two_years_have_nothing_to_do_with_one_another(self):
        one = year_of(DAMAGES)
        other = Year(PLAN)
        self.assert_year(other, [])
        other.put(LATE)
        self.assert_year(other, [LATE])
        self.assert_year(one, DAMAGES)
        one.drop(1)
        self.assert_year(other, [LATE])

    def test_without_layers(self):
        plan = (100, ())
        year = year_of(DAMAGES, plan)
        self.assertEqual(year.used(), [])
        self.assertEqual(year.trail(7), [])
        self.assertEqual(year.share(7), (100, [], 300))
        self.assert_year(year, DAMAGES, plan)

    def test_changing_what_was_told_changes_nothing(self):
        year = year_of(DAMAGES)
        for told in (year.damages(), year.used(), year.share(7)[1], year.share(1)[1], year.trail(7), year.trail(1)):
            told[0] = (2020, 1, 99, 99)
            told.append(77)
            self.assert_year(year, DAMAGES)
            told.clear()
            self.assert_year(year, DAMAGES)
        empty = Year(PLAN)
        empty.damages().append(EARLY)
        empty.used().append(5)
        self.assert_year(empty, [])

    def test_what_was_told_stays_as_it_is(self):
        year = year_of([SAME_DAY, LATE])
        told = (year.damages(), year.row, year.used(), year.share(1), year.trail(1))
        expected = (
            [SAME_DAY, LATE], [SAME_DAY, LATE], [100, 230], (100, [50, 200], 150), [(50, 50, 100), (30, 200, 230)],
        )
        self.assertEqual(told, expected)
        year.put(EARLY)
        year.put(LATER_NUMBER)
        year.used(), year.share(1), year.trail(1)
        self.assertEqual(told, expected)
        year.drop(1)
        year.drop(3)
        self.assertEqual(told, expected)

    def test_the_least_and_the_greatest_numbers(self):
        most = 10 ** 15
        plan = (0, ((most, 10 ** 18, (1,)), (1, 1, (1,))))
        damages = [(9999, 1, number, most) for number in range(1001)]
        year = year_of(reversed(damages), plan)
        self.assertEqual(year.used(), [10 ** 18, 1])
        self.assertEqual(year.share(999), (0, [most, 0], 0))
        self.assertEqual(year.share(1000), (0, [0, 1], most - 1))
        self.assertEqual(year.trail(1000), [(10 ** 18, 0, 10 ** 18), (0, 1, 1)])

    def test_many_drawn_years(self):
        draw = Random(8)
        for _ in range(60):
            layers = tuple(
                (draw.randint(1, 40), draw.randint(1, 120), (1,) * draw.randint(1, 3))
                for _ in range(draw.randint(0, 9))
            )
            plan = (draw.randint(0, 20), layers)
            damages = [
                (2020, draw.randint(1, 9), number, draw.randint(0, 200))
                for number in draw.sample(range(100), draw.randint(0, 20))
            ]
            in_order = sorted(damages, key=lambda damage: (damage[1], damage[2]))
            self.assert_year(year_of(damages, plan), in_order, plan)


if __name__ == "__main__":
    unittest.main()
