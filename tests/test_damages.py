"""Damages, their order, and how they are written and read: promises 1, 5 and 6."""

import unittest
from itertools import product

from claimlayers import damages
from claimlayers.damages import ahead, is_damage, read, written
from claimlayers.errors import ClaimError, NoDamage
from tests.things import OTHER_THINGS

DAMAGE = (2020, 45, 17, 5000)
LEAST = (0, 1, 0, 0)
MOST = (9999, 366, 10 ** 9, 10 ** 15)


def some_damages():
    """Damages with each number at its least, its greatest, and some between."""
    return list(product(
        (0, 1, 10, 2020, 9999), (1, 2, 100, 366), (0, 7, 20, 10 ** 9), (0, 5, 1000, 10 ** 15),
    ))


class Damages(unittest.TestCase):
    def test_ordinary_damages(self):
        for thing in [DAMAGE, LEAST, MOST] + some_damages():
            self.assertIs(is_damage(thing), True, thing)

    def test_each_number_at_its_bounds(self):
        bounds = ((0, 9999), (1, 366), (0, 10 ** 9), (0, 10 ** 15))
        for place, (least, most) in enumerate(bounds):
            for number, expected in ((least - 1, False), (least, True), (most, True), (most + 1, False)):
                thing = DAMAGE[:place] + (number,) + DAMAGE[place + 1:]
                self.assertIs(is_damage(thing), expected, thing)

    def test_other_things_are_no_damages(self):
        for thing in OTHER_THINGS + (0, 5, "2020 45 17 5000", (DAMAGE,), ((),) * 4):
            self.assertIs(is_damage(thing), False)

    def test_other_things_at_each_place(self):
        for place in range(4):
            for wrong in OTHER_THINGS + ("2020", (2020,)):
                self.assertIs(is_damage(DAMAGE[:place] + (wrong,) + DAMAGE[place + 1:]), False)

    def test_a_list_in_place_of_the_tuple(self):
        self.assertIs(is_damage(list(DAMAGE)), False)

    def test_more_or_fewer_things(self):
        for thing in (DAMAGE[:1], DAMAGE[:3], DAMAGE[1:], DAMAGE + (1,), DAMAGE + (None,), DAMAGE * 2):
            self.assertIs(is_damage(thing), False, thing)

    def test_what_is_handed_in_stays_as_it_is(self):
        thing = [2020, 45, 17, 5000]
        is_damage(thing)
        self.assertEqual(thing, [2020, 45, 17, 5000])


class Ahead(unittest.TestCase):
    def assert_ahead(self, one, other):
        self.assertIs(ahead(one, other), True, (one, other))
        self.assertIs(ahead(other, one), False, (other, one))

    def test_by_the_year_whatever_stands_behind_it(self):
        self.assert_ahead((2019, 366, 10 ** 9, 10 ** 15), (2020, 1, 0, 0))
        self.assert_ahead((0, 1, 0, 0), (9999, 1, 0, 0))

    def test_by_the_day_in_one_year(self):
        self.assert_ahead((2020, 9, 10 ** 9, 10 ** 15), (2020, 10, 0, 0))
        self.assert_ahead((2020, 1, 5, 5), (2020, 366, 5, 5))

    def test_by_the_number_on_one_day(self):
        self.assert_ahead((2020, 10, 9, 10 ** 15), (2020, 10, 10, 0))
        self.assert_ahead((2020, 10, 0, 0), (2020, 10, 10 ** 9, 0))

    def test_the_amount_does_not_count(self):
        self.assertIs(ahead((2020, 10, 9, 1), (2020, 10, 9, 2)), False)
        self.assertIs(ahead((2020, 10, 9, 2), (2020, 10, 9, 1)), False)

    def test_none_is_ahead_of_itself(self):
        for damage in (DAMAGE, LEAST, MOST):
            self.assertIs(ahead(damage, damage), False)

    def test_each_two_of_many(self):
        some = some_damages()[::7]
        for one, other in product(some, some):
            if one[0] != other[0]:
                expected = one[0] < other[0]
            elif one[1] != other[1]:
                expected = one[1] < other[1]
            else:
                expected = one[2] < other[2]
            self.assertIs(ahead(one, other), expected, (one, other))


class Written(unittest.TestCase):
    def test_worked_by_hand(self):
        self.assertEqual(written(DAMAGE), "2020 45 17 5000")
        self.assertEqual(written(LEAST), "0 1 0 0")
        self.assertEqual(written(MOST), "9999 366 1000000000 1000000000000000")

    def test_what_is_written_is_read_to_the_same_damage(self):
        for damage in [DAMAGE, LEAST, MOST] + some_damages():
            again = read(written(damage))
            self.assertEqual(again, damage)
            self.assertIs(is_damage(again), True)


class Read(unittest.TestCase):
    def assert_refused(self, line):
        with self.assertRaises(NoDamage, msg=repr(line[:80])) as caught:
            read(line)
        self.assertIsInstance(caught.exception, ClaimError)

    def test_worked_by_hand(self):
        self.assertEqual(read("2020 45 17 5000"), DAMAGE)
        self.assertEqual(read("0 1 0 0"), LEAST)
        self.assertEqual(read("9999 366 1000000000 1000000000000000"), MOST)
        self.assertEqual(read("10 10 10 10"), (10, 10, 10, 10))

    def test_a_blank_more_or_less(self):
        for line in (
            " 2020 45 17 5000", "2020 45 17 5000 ", "2020  45 17 5000", "2020 45  17 5000", "2020 45 17  5000",
            "202045 17 5000", "2020 4517 5000", "2020 45 175000", " ", "   ", "    ",
        ):
            self.assert_refused(line)

    def test_more_or_fewer_numbers(self):
        for line in ("", "2020", "2020 45", "2020 45 17", "2020 45 17 5000 1", "2020 45 17 5000 2020 45 17 5000"):
            self.assert_refused(line)

    def test_a_nought_ahead_of_other_figures(self):
        for line in (
            "02020 45 17 5000", "2020 045 17 5000", "2020 45 017 5000", "2020 45 17 05000",
            "00 1 0 0", "0 01 0 0", "0 1 00 0", "0 1 0 00", "0 1 0 0000000000000000",
        ):
            self.assert_refused(line)

    def test_another_sign_at_any_place(self):
        line = "2020 45 17 5000"
        signs = [chr(code) for code in range(128) if not chr(code).isdigit()]
        for sign, place in product(signs, range(len(line) + 1)):
            self.assert_refused(line[:place] + sign + line[place:])

    def test_another_sign_in_place_of_any(self):
        line = "2020 45 17 5000"
        signs = [chr(code) for code in range(128) if not chr(code).isdigit() and chr(code) != " "]
        for sign, place in product(signs, range(len(line))):
            self.assert_refused(line[:place] + sign + line[place + 1:])

    def test_figures_beyond_ascii(self):
        for line in ("2020 45 17 \u0665", "2020 \uff11 17 5000", "2020 45 17 \u00b2", "2020\u00a045 17 5000"):
            self.assert_refused(line)

    def test_other_ways_to_write_a_number(self):
        for word in ("+1", "-1", "-0", "1_0", "1.0", "1e3", "0x1", "1,000", "one", "None", "True"):
            for place in range(4):
                words = "2020 45 17 5000".split(" ")
                words[place] = word
                self.assert_refused(" ".join(words))

    def test_numbers_out_of_their_bounds(self):
        for line in (
            "10000 45 17 5000", "2020 0 17 5000", "2020 367 17 5000",
            "2020 45 1000000001 5000", "2020 45 17 1000000000000001",
        ):
            self.assert_refused(line)

    def test_each_number_at_its_bounds(self):
        for place, (least, most) in enumerate(((0, 9999), (1, 366), (0, 10 ** 9), (0, 10 ** 15))):
            for number in (least, most):
                damage = DAMAGE[:place] + (number,) + DAMAGE[place + 1:]
                self.assertEqual(read(" ".join(str(each) for each in damage)), damage)

    def test_very_many_figures(self):
        for many in (17, 18, 19, 20, 100, 4300, 4301, 5000, 100_000):
            for figures in ("1" * many, "9" * many, "0" * many, "0" * (many - 1) + "1"):
                for place in range(4):
                    words = "2020 45 17 5000".split(" ")
                    words[place] = figures
                    self.assert_refused(" ".join(words))

    def test_very_many_words(self):
        self.assert_refused(" " * 5000)
        self.assert_refused("1 " * 5000)
        self.assert_refused(" ".join(["1"] * 5000))


class Interface(unittest.TestCase):
    def test_they_are_defined_in_their_file(self):
        for name in ("is_damage", "ahead", "written", "read"):
            self.assertEqual(getattr(damages, name).__module__, "claimlayers.damages")

    def test_arguments_have_their_names(self):
        self.assertIs(is_damage(thing=DAMAGE), True)
        self.assertIs(ahead(one=LEAST, other=MOST), True)
        self.assertEqual(written(damage=DAMAGE), "2020 45 17 5000")
        self.assertEqual(read(line="2020 45 17 5000"), DAMAGE)


if __name__ == "__main__":
    unittest.main()
