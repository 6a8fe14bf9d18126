"""What is promised over the whole program: promise 1."""

import unittest
from itertools import permutations
from random import Random

from claimlayers.books import Book
from claimlayers.damages import written
from claimlayers.desk import played
from claimlayers.errors import Closed, Known, NoDamage, NotClosed, Unknown
from tests.model import assert_holds, everything, expected_dues, expected_parts, expected_trail, expected_year

PLAN = (100, ((50, 120, (1, 2)), (200, 300, (1,)), (7, 20, (5, 1, 1))))
DAMAGES = ((2020, 10, 7, 400), (2020, 20, 3, 180), (2020, 20, 12, 700), (2021, 5, 1, 900), (2021, 5, 0, 130))
NUMBERS = tuple(range(15))
YEARS = (2019, 2020, 2021, 2022)


def in_order(damages, year):
    return sorted(damage for damage in damages if damage[0] == year)


class Orders(unittest.TestCase):
    def assert_tells_the_same(self, book):
        told = Book(PLAN)
        for damage in DAMAGES:
            told.told(damage)
        self.assertEqual(everything(book, NUMBERS, YEARS), everything(told, NUMBERS, YEARS))

    def test_told_in_every_order(self):
        for damages in permutations(DAMAGES):
            book = Book(PLAN)
            for damage in damages:
                book.told(damage)
            self.assert_tells_the_same(book)

    def test_asked_on_the_way(self):
        for damages in permutations(DAMAGES):
            book = Book(PLAN)
            for damage in damages:
                book.told(damage)
                everything(book, NUMBERS, YEARS)
            self.assert_tells_the_same(book)

    def test_changed_and_taken_back_on_the_way(self):
        for damages in permutations(DAMAGES):
            book = Book(PLAN)
            book.told((2020, 1, 12, 1000))
            book.told((2022, 1, 14, 1000))
            book.back(12)
            for year, day, number, amount in damages:
                book.told((year, day, number, 0))
                book.change(number, 10 ** 15)
                book.back(number)
                book.told((year, day, number, amount + 50))
            book.back(14)
            for _, _, number, amount in reversed(damages):
                book.change(number, amount)
            self.assert_tells_the_same(book)

    def test_closed_and_opened_on_the_way(self):
        for damages in permutations(DAMAGES):
            book = Book(PLAN)
            book.close(2022)
            for damage in damages:
                book.told(damage)
                book.close(damage[0])
                for deed in (lambda: book.change(damage[2], 5), lambda: book.back(damage[2])):
                    with self.assertRaises(Closed):
                        deed()
                book.reopen(damage[0])
            book.reopen(2022)
            self.assert_tells_the_same(book)

    def test_at_a_desk(self):
        asked = [f"share {number}" for number in NUMBERS] + [f"used {year}\nlist {year}" for year in YEARS]
        expected = None
        for damages in permutations(DAMAGES):
            rows = [f"told {written(damage)}" for damage in damages]
            answers = played(PLAN, "\n".join(rows + asked))[len(rows):]
            expected = expected or answers
            self.assertEqual(answers, expected)
            self.assertIn("7 3 12", answers)


class Walk(unittest.TestCase):
    """Many drawn deeds, on a book and beside it on plain dicts, which have to tell the same."""

    def assert_book(self, book, plan, standing, shut):
        self.assertEqual(book.plan, plan)
        self.assertEqual(book.years(), sorted({damage[0] for damage in standing.values()}))
        for number in NUMBERS:
            self.assertIs(book.stands(number), number in standing)
        for year in YEARS:
            self.assertIs(book.closed(year), year in shut)
            damages = in_order(standing.values(), year)
            self.assertEqual(book.damages(year), damages)
            told, used = expected_year(plan, damages)
            self.assertEqual(book.used(year), used)
            self.assertEqual(book.dues(year), expected_dues(plan, told))
            self.assertEqual([sum(row) for row in book.dues(year)], used)
            for (_, most, _), gone in zip(plan[1], used):
                self.assertTrue(0 <= gone <= most)
            self.assert_damages(book, plan, damages, told)

    def assert_damages(self, book, plan, damages, told):
        for damage in damages:
            ahead, share = told[damage[2]]
            self.assertEqual(book.damage(damage[2]), damage)
            self.assertEqual(book.share(damage[2]), share)
            assert_holds(self, plan, ahead, damage[3], book.share(damage[2]))
            self.assertEqual(book.trail(damage[2]), expected_trail(ahead, share[1]))
            parts = book.parts(damage[2])
            self.assertEqual(parts, expected_parts(plan, share[1]))
            self.assertEqual([sum(row) for row in parts], share[1])

    def done(self, kind, deed, *things):
        """Do the deed, which is refused with this kind, or not at all where the kind is None."""
        if kind is None:
            self.assertIsNone(deed(*things))
            return True
        with self.assertRaises(kind) as caught:
            deed(*things)
        self.assertIs(type(caught.exception), kind)
        return False

    def tell(self, draw, book, standing, shut):
        amount = draw.choice((draw.randint(0, 60), draw.randint(0, 600), 10 ** 15, 10 ** 15 + 1))
        damage = (draw.choice(YEARS), draw.randint(1, 3), draw.choice(NUMBERS), amount)
        kind = None
        if amount > 10 ** 15:
            kind = NoDamage
        elif damage[0] in shut:
            kind = Closed
        elif damage[2] in standing:
            kind = Known
        if self.done(kind, book.told, damage):
            standing[damage[2]] = damage

    def change(self, draw, book, standing, shut):
        number, amount = draw.choice(NUMBERS), draw.choice((-1, 0, draw.randint(0, 300), draw.randint(0, 900)))
        kind = None
        if number not in standing:
            kind = Unknown
        elif amount < 0:
            kind = NoDamage
        elif standing[number][0] in shut:
            kind = Closed
        if self.done(kind, book.change, number, amount):
            standing[number] = standing[number][:3] + (amount,)

    def back(self, draw, book, standing, shut):
        number = draw.choice(NUMBERS)
        kind = None
        if number not in standing:
            kind = Unknown
        elif standing[number][0] in shut:
            kind = Closed
        if self.done(kind, book.back, number):
            del standing[number]

    def close(self, draw, book, standing, shut):
        year = draw.choice(YEARS)
        if self.done(Closed if year in shut else None, book.close, year):
            shut.add(year)

    def reopen(self, draw, book, standing, shut):
        year = draw.choice(YEARS)
        if self.done(None if year in shut else NotClosed, book.reopen, year):
            shut.remove(year)

    def drawn_plan(self, draw):
        layers = tuple(
            (
                draw.randint(1, 90), draw.randint(1, 400),
                tuple(draw.randint(1, 9) for _ in range(draw.randint(1, 9))),
            )
            for _ in range(draw.randint(0, 5))
        )
        return (draw.randint(0, 50), layers)

    def test_many_drawn_deeds(self):
        draw = Random(15)
        for _ in range(30):
            plan = self.drawn_plan(draw)
            book, standing, shut = Book(plan), {}, set()
            for _ in range(60):
                deed = draw.choice([self.tell] * 6 + [self.change] * 3 + [self.back, self.close, self.reopen])
                deed(draw, book, standing, shut)
                self.assert_book(book, plan, standing, shut)


if __name__ == "__main__":
    unittest.main()
