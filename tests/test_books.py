"""A book, what it tells and what it refuses: promises 4 and 10 to 14."""

import unittest

from claimlayers.books import Book
from claimlayers.errors import ClaimError, Closed, Known, NoDamage, NoPlan, NotClosed, NoYear, Unknown
from tests.model import everything, expected_dues, expected_parts, expected_year
from tests.things import OTHER_THINGS

# The own part is 100; 50 of each damage and 120 of each year, then 200 and 300.
PLAN = (100, ((50, 120, (1, 2)), (200, 300, (1,))))
DAMAGES = [
    (2020, 10, 7, 400),
    (2020, 20, 3, 180),
    (2021, 5, 12, 150),
    (2021, 5, 13, 1000),
]
NUMBERS = (3, 7, 12, 13, 99)
YEARS = (0, 2019, 2020, 2021, 9999)

NO_NUMBERS = OTHER_THINGS + ((2020,), [3], "3", (3, 3), 10 ** 9 + 1, 10 ** 18, (2020, 10, 7, 400))
NO_YEARS = OTHER_THINGS + ((2020,), [2020], "2020", b"2020", 10_000, 10 ** 18)
NO_AMOUNTS = OTHER_THINGS + ((5,), [5], "5", 10 ** 15 + 1, 10 ** 18)
NO_DAMAGES = OTHER_THINGS + (
    5, "2020 10 8 400", [2020, 10, 8, 400], (2020, 10, 8), (2020, 10, 8, 400, 1), ((2020, 10, 8, 400),),
    (10_000, 10, 8, 400), (-1, 10, 8, 400), (2020, 0, 8, 400), (2020, 367, 8, 400),
    (2020, 10, -1, 400), (2020, 10, 10 ** 9 + 1, 400), (2020, 10, 8, -1), (2020, 10, 8, 10 ** 15 + 1),
    (True, 10, 8, 400), (2020, True, 8, 400), (2020, 10, True, 400), (2020, 10, 8, False),
    (2020, 10, 8, None), (2020, 10, "8", 400), ([], 10, 8, 400),
)
NO_PLANS = OTHER_THINGS + (
    list(PLAN), (100, list(PLAN[1])), (-1, PLAN[1]), (True, PLAN[1]), (10 ** 15 + 1, ()), PLAN[1], PLAN + (1,),
    (100, PLAN[1] * 5), (100, ((0, 120, (1,)),)), (100, ((50, 120, ()),)), (100, ((50, 120, [1]),)), (100, None),
)


def book_of(damages, plan=PLAN):
    book = Book(plan)
    for damage in damages:
        book.told(damage)
    return book


class Books(unittest.TestCase):
    def assert_refused(self, kind, book, name, *things):
        """The refusal is of this very kind, and changes nothing."""
        before = everything(book, NUMBERS, YEARS)
        with self.assertRaises(ClaimError) as caught:
            getattr(book, name)(*things)
        self.assertIs(type(caught.exception), kind, name)
        self.assertEqual(everything(book, NUMBERS, YEARS), before)

    def assert_book(self, book, damages):
        """Ask for all that a book tells, where these damages stand in it."""
        years = sorted({damage[0] for damage in damages})
        self.assertEqual(book.years(), years)
        for year in years + [9998]:
            in_order = sorted(damage for damage in damages if damage[0] == year)
            told, used = expected_year(book.plan, in_order)
            self.assertEqual(book.damages(year), in_order)
            self.assertEqual(book.used(year), used)
            self.assertEqual(book.dues(year), expected_dues(book.plan, told))
            for damage in in_order:
                ahead, share = told[damage[2]]
                self.assertIs(book.stands(damage[2]), True)
                self.assertEqual(book.damage(damage[2]), damage)
                self.assertEqual(book.share(damage[2]), share)
                self.assertEqual([step[:2] for step in book.trail(damage[2])], list(zip(ahead, share[1])))
                self.assertEqual(book.parts(damage[2]), expected_parts(book.plan, share[1]))


class Telling(Books):
    def test_an_empty_book(self):
        book = Book(PLAN)
        self.assertEqual(book.plan, PLAN)
        self.assertEqual(book.years(), [])
        self.assertEqual(book.damages(2020), [])
        self.assertEqual(book.used(2020), [0, 0])
        self.assertEqual(book.dues(2020), [[0, 0], [0]])
        self.assertIs(book.closed(2020), False)
        self.assertIs(book.stands(7), False)

    def test_worked_by_hand(self):
        book = book_of(DAMAGES)
        self.assertEqual(book.years(), [2020, 2021])
        self.assertEqual(book.damages(2020), DAMAGES[:2])
        self.assertEqual(book.damage(3), (2020, 20, 3, 180))
        self.assertEqual(book.share(7), (100, [50, 200], 50))
        self.assertEqual(book.share(3), (100, [50, 30], 0))
        self.assertEqual(book.trail(3), [(50, 50, 100), (200, 30, 230)])
        self.assertEqual(book.used(2020), [100, 230])
        self.assertEqual(book.share(12), (100, [50, 0], 0))
        self.assertEqual(book.share(13), (100, [50, 200], 650))
        self.assertEqual(book.used(2021), [100, 200])

    def test_all_is_told_of_the_damages_that_stand_there(self):
        for many in range(len(DAMAGES) + 1):
            self.assert_book(book_of(DAMAGES[:many]), DAMAGES[:many])

    def test_deeds_answer_none(self):
        book = Book(PLAN)
        self.assertIsNone(book.told(DAMAGES[0]))
        self.assertIsNone(book.change(7, 5))
        self.assertIsNone(book.close(2020))
        self.assertIsNone(book.reopen(2020))
        self.assertIsNone(book.back(7))

    def test_kinds_of_what_is_told(self):
        book = book_of(DAMAGES)
        self.assertIs(type(book.damage(7)), tuple)
        self.assertIs(type(book.share(7)), tuple)
        for told in (
            book.share(7)[1], book.trail(7), book.parts(7), book.parts(7)[0],
            book.damages(2020), book.used(2020), book.years(), book.dues(2020), book.dues(2020)[0],
        ):
            self.assertIs(type(told), list)

    def test_the_least_and_the_greatest(self):
        book = book_of([(0, 1, 0, 0), (9999, 366, 10 ** 9, 10 ** 15)])
        self.assertEqual(book.years(), [0, 9999])
        self.assertEqual(book.share(0), (0, [0, 0], 0))
        self.assertEqual(book.share(10 ** 9), (100, [50, 200], 10 ** 15 - 350))
        book.change(0, 10 ** 15)
        self.assertEqual(book.damage(0), (0, 1, 0, 10 ** 15))
        for year in (0, 9999):
            book.close(year)
            self.assertIs(book.closed(year), True)
            book.reopen(year)
        book.back(0)
        book.back(10 ** 9)
        self.assertEqual(book.years(), [])

    def test_years_have_nothing_to_do_with_one_another(self):
        book = book_of(DAMAGES[:2])
        before = everything(book, (7, 3), (2020,))[2:]
        book.told((2019, 1, 50, 1000))
        book.told((2021, 1, 51, 1000))
        self.assertEqual(everything(book, (7, 3), (2020,))[2:], before)

    def test_two_books_have_nothing_to_do_with_one_another(self):
        one, other = Book(PLAN), Book(PLAN)
        one.told(DAMAGES[0])
        one.close(2021)
        self.assert_book(other, [])
        self.assertIs(other.closed(2021), False)
        other.told(DAMAGES[2])
        self.assert_book(one, DAMAGES[:1])

    def test_no_plan(self):
        for thing in NO_PLANS:
            with self.assertRaises(ClaimError) as caught:
                Book(thing)
            self.assertIs(type(caught.exception), NoPlan)

    def test_no_damage(self):
        book = book_of(DAMAGES)
        for thing in NO_DAMAGES:
            self.assert_refused(NoDamage, book, "told", thing)

    def test_no_damage_is_refused_ahead_of_closed_and_known(self):
        book = book_of(DAMAGES)
        book.close(2020)
        self.assert_refused(NoDamage, book, "told", (2020, 367, 7, 400))
        self.assert_refused(NoDamage, book, "told", (2021, 0, 7, 400))
        self.assert_refused(NoDamage, book, "told", list(DAMAGES[0]))

    def test_closed_is_refused_ahead_of_known(self):
        book = book_of(DAMAGES)
        book.close(2020)
        self.assert_refused(Closed, book, "told", (2020, 1, 99, 5))
        self.assert_refused(Closed, book, "told", (2020, 1, 7, 5))
        self.assert_refused(Closed, book, "told", (2020, 1, 12, 5))
        book.close(2019)
        self.assert_refused(Closed, book, "told", (2019, 1, 99, 5))

    def test_known(self):
        book = book_of(DAMAGES)
        self.assert_refused(Known, book, "told", DAMAGES[0])
        self.assert_refused(Known, book, "told", (2020, 300, 7, 5))
        self.assert_refused(Known, book, "told", (2021, 10, 7, 400))
        self.assert_refused(Known, book, "told", (1, 1, 13, 0))
        book.close(2020)
        self.assert_refused(Known, book, "told", (2021, 10, 7, 400))


class Changing(Books):
    def test_another_amount_from_then_on(self):
        book = book_of(DAMAGES)
        book.change(7, 120)
        damages = [(2020, 10, 7, 120)] + DAMAGES[1:]
        self.assertEqual(book.damage(7), (2020, 10, 7, 120))
        self.assertEqual(book.share(7), (100, [20, 0], 0))
        self.assertEqual(book.trail(3), [(20, 50, 70), (0, 30, 30)])
        self.assert_book(book, damages)
        book.change(7, 400)
        self.assert_book(book, DAMAGES)

    def test_to_the_same_and_to_the_least_and_the_greatest_amount(self):
        book = book_of(DAMAGES)
        for amount in (400, 0, 10 ** 15):
            book.change(7, amount)
            self.assert_book(book, [(2020, 10, 7, amount)] + DAMAGES[1:])

    def test_the_only_damage_of_its_year(self):
        book = book_of(DAMAGES[:1])
        book.change(7, 90)
        self.assert_book(book, [(2020, 10, 7, 90)])

    def test_unknown(self):
        book = book_of(DAMAGES)
        for thing in NO_NUMBERS + (0, 1, 99, 2020, 10 ** 9):
            self.assert_refused(Unknown, book, "change", thing, 5)

    def test_no_amount(self):
        book = book_of(DAMAGES)
        for thing in NO_AMOUNTS:
            self.assert_refused(NoDamage, book, "change", 7, thing)

    def test_closed(self):
        book = book_of(DAMAGES)
        book.close(2020)
        self.assert_refused(Closed, book, "change", 7, 5)
        self.assert_refused(Closed, book, "change", 7, 400)
        book.change(12, 5)
        self.assertEqual(book.damage(12), (2021, 5, 12, 5))

    def test_unknown_then_no_amount_then_closed(self):
        book = book_of(DAMAGES)
        book.close(2020)
        self.assert_refused(Unknown, book, "change", 99, -1)
        self.assert_refused(Unknown, book, "change", True, None)
        self.assert_refused(NoDamage, book, "change", 7, -1)
        self.assert_refused(NoDamage, book, "change", 7, True)


class TakingBack(Books):
    def test_it_stands_there_no_more(self):
        book = book_of(DAMAGES)
        book.back(7)
        self.assertIs(book.stands(7), False)
        self.assert_book(book, DAMAGES[1:])
        self.assertEqual(book.share(3), (100, [50, 30], 0))
        self.assertEqual(book.trail(3), [(0, 50, 50), (0, 30, 30)])
        for name in ("damage", "share", "trail", "parts", "back"):
            self.assert_refused(Unknown, book, name, 7)
        self.assert_refused(Unknown, book, "change", 7, 5)

    def test_its_number_is_free_again(self):
        book = book_of(DAMAGES)
        book.back(7)
        book.told((2021, 300, 7, 160))
        self.assert_book(book, DAMAGES[1:] + [(2021, 300, 7, 160)])
        book.back(7)
        book.told(DAMAGES[0])
        self.assert_book(book, DAMAGES)

    def test_a_year_whose_damages_have_all_gone(self):
        book = book_of(DAMAGES)
        book.back(7)
        self.assertEqual(book.years(), [2020, 2021])
        book.back(3)
        self.assertEqual(book.years(), [2021])
        self.assertEqual(book.damages(2020), [])
        self.assertEqual(book.used(2020), [0, 0])
        self.assertEqual(book.dues(2020), [[0, 0], [0]])
        book.told(DAMAGES[0])
        self.assertEqual(book.years(), [2020, 2021])

    def test_unknown(self):
        book = book_of(DAMAGES)
        for thing in NO_NUMBERS + (0, 1, 99, 2020, 10 ** 9):
            self.assert_refused(Unknown, book, "back", thing)

    def test_closed(self):
        book = book_of(DAMAGES)
        book.close(2020)
        self.assert_refused(Closed, book, "back", 7)
        self.assert_refused(Unknown, book, "back", 99)
        book.back(12)
        book.reopen(2020)
        book.back(7)
        self.assert_book(book, [DAMAGES[1], DAMAGES[3]])


class Closing(Books):
    def test_closed_and_opened_again(self):
        book = book_of(DAMAGES)
        book.close(2020)
        self.assertIs(book.closed(2020), True)
        self.assertIs(book.closed(2021), False)
        book.reopen(2020)
        self.assertIs(book.closed(2020), False)
        book.told((2020, 1, 99, 5))
        book.change(7, 5)
        book.back(3)
        self.assert_book(book, [(2020, 1, 99, 5), (2020, 10, 7, 5)] + DAMAGES[2:])

    def test_all_may_be_asked_of_a_closed_year(self):
        book = book_of(DAMAGES)
        before = everything(book, NUMBERS, YEARS)[:4]
        for year in YEARS:
            book.close(year)
        self.assertEqual(everything(book, NUMBERS, YEARS)[:4], before)
        self.assert_book(book, DAMAGES)

    def test_a_year_without_damages(self):
        book = Book(PLAN)
        book.close(2020)
        self.assertEqual(book.years(), [])
        self.assertEqual(book.used(2020), [0, 0])
        self.assert_refused(Closed, book, "told", DAMAGES[0])
        book.told(DAMAGES[2])
        book.reopen(2020)
        book.told(DAMAGES[0])
        self.assert_book(book, [DAMAGES[0], DAMAGES[2]])

    def test_a_year_closes_alone(self):
        book = book_of(DAMAGES)
        book.close(2020)
        book.told((2019, 1, 98, 5))
        book.told((2021, 1, 99, 5))
        self.assert_book(book, DAMAGES + [(2019, 1, 98, 5), (2021, 1, 99, 5)])

    def test_closing_and_opening_twice(self):
        book = book_of(DAMAGES)
        self.assert_refused(NotClosed, book, "reopen", 2020)
        book.close(2020)
        self.assert_refused(Closed, book, "close", 2020)
        self.assert_refused(NotClosed, book, "reopen", 2021)
        book.reopen(2020)
        self.assert_refused(NotClosed, book, "reopen", 2020)
        book.close(2020)
        self.assertIs(book.closed(2020), True)

    def test_no_year(self):
        book = book_of(DAMAGES)
        # The year 1 is closed and the year 0 is not: neither True nor False is taken for it.
        book.close(1)
        for thing in NO_YEARS:
            self.assert_refused(NoYear, book, "close", thing)
            self.assert_refused(NoYear, book, "reopen", thing)


class Asking(Books):
    def test_a_number_that_stands_not_there_or_is_none(self):
        # Neither True nor False is taken for one of these two.
        book = book_of(DAMAGES + [(2020, 1, 0, 5), (2020, 1, 1, 5)])
        for thing in NO_NUMBERS + (2, 99, 2020, 10 ** 9):
            self.assertIs(book.stands(thing), False)
            for name in ("damage", "share", "trail", "parts", "back"):
                self.assert_refused(Unknown, book, name, thing)

    def test_what_is_no_year(self):
        book = book_of(DAMAGES + [(0, 1, 0, 5), (1, 1, 1, 5)])
        for thing in NO_YEARS:
            for name in ("closed", "damages", "used", "dues"):
                self.assert_refused(NoYear, book, name, thing)

    def test_asking_changes_nothing(self):
        book = book_of(DAMAGES)
        before = everything(book, NUMBERS, YEARS)
        self.assertEqual(everything(book, NUMBERS, YEARS), before)
        self.assertEqual(book.years(), [2020, 2021])

    def test_changing_what_was_told_changes_nothing(self):
        book = book_of(DAMAGES)
        for name, thing in (
            ("damages", 2020), ("used", 2020), ("dues", 2020), ("parts", 7), ("trail", 7), ("share", 7),
        ):
            told = getattr(book, name)(thing)
            rows = [told[1]] if name == "share" else [told] + [row for row in told if type(row) is list]
            for row in rows:
                row[0] = 99
                row.append(77)
            self.assert_book(book, DAMAGES)
        book.years().clear()
        book.damages(2019).append(DAMAGES[0])
        book.used(2019)[0] = 5
        book.dues(2019)[0][0] = 5
        self.assert_book(book, DAMAGES)

    def test_what_was_told_stays_as_it_is(self):
        book = book_of(DAMAGES)
        book.close(2019)
        told = everything(book, NUMBERS, YEARS)
        again = everything(book_of(DAMAGES), NUMBERS, YEARS)
        again[4][1] = (True,) + again[4][1][1:]
        self.assertEqual(told, again)
        book.told((2020, 1, 99, 1000))
        book.change(3, 1000)
        book.back(12)
        book.back(13)
        book.reopen(2019)
        everything(book, NUMBERS, YEARS)
        self.assertEqual(told, again)

    def test_what_is_handed_in_stays_as_it_is(self):
        things = [[100, [[50, 120, [1]]]], [2020, 1, 99, 5]]
        book = Book(PLAN)
        with self.assertRaises(NoPlan):
            Book(things[0])
        with self.assertRaises(NoDamage):
            book.told(things[1])
        with self.assertRaises(Unknown):
            book.back(things[1])
        with self.assertRaises(NoYear):
            book.close(things[1])
        self.assertEqual(things, [[100, [[50, 120, [1]]]], [2020, 1, 99, 5]])


class Dues(Books):
    def test_parts_come_to_what_each_layer_pays(self):
        plan = (10, ((50, 500, (1, 2, 4)), (70, 100, (3,)), (1000, 1000, (1,) * 9)))
        book = book_of([(2020, day, day, 37 * day) for day in range(1, 15)], plan)
        for number in range(1, 15):
            paid = book.share(number)[1]
            parts = book.parts(number)
            self.assertEqual([len(row) for row in parts], [3, 1, 9])
            self.assertEqual([sum(row) for row in parts], paid)
            self.assertEqual(parts, expected_parts(plan, paid))

    def test_worked_by_hand(self):
        book = book_of(DAMAGES)
        self.assertEqual(book.parts(7), [[16, 34], [200]])
        self.assertEqual(book.parts(3), [[16, 34], [30]])
        # Each damage's parts are rounded on their own: 32, where 100 times 1 by 3 would be 33.
        self.assertEqual(book.dues(2020), [[32, 68], [230]])
        book.change(7, 110)
        self.assertEqual(book.parts(7), [[3, 7], [0]])
        self.assertEqual(book.dues(2020), [[19, 41], [30]])

    def test_dues_come_to_what_is_used(self):
        plan = (5, ((20, 90, (2, 3, 5)), (40, 100, (1, 1))))
        book = book_of([(2020, 1 + 7 * number % 30, number, 9 * number) for number in range(20)], plan)
        self.assertEqual([sum(row) for row in book.dues(2020)], book.used(2020))
        dues = [[0, 0, 0], [0, 0]]
        for number in range(20):
            for place, row in enumerate(book.parts(number)):
                dues[place] = [due + part for due, part in zip(dues[place], row)]
        self.assertEqual(book.dues(2020), dues)

    def test_a_year_of_none(self):
        book = book_of(DAMAGES)
        for year in (0, 2019, 9999):
            self.assertEqual(book.dues(year), [[0, 0], [0]])

    def test_without_layers(self):
        book = book_of(DAMAGES, (100, ()))
        self.assertEqual(book.share(7), (100, [], 300))
        self.assertEqual(book.trail(7), [])
        self.assertEqual(book.parts(7), [])
        self.assertEqual(book.used(2020), [])
        self.assertEqual(book.dues(2020), [])
        self.assert_book(book, DAMAGES)


if __name__ == "__main__":
    unittest.main()
