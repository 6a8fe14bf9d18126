"""A desk, row by row: promise 15."""

import unittest

from claimlayers.desk import played
from claimlayers.errors import ClaimError, NoPlan
from tests.things import OTHER_THINGS

# The own part is 100; 50 of each damage and 120 of each year, then 200 and 300.
PLAN = (100, ((50, 120, (1, 2)), (200, 300, (1,))))
WITHOUT_LAYERS = (100, ())
START = ("told 2020 10 7 400", "told 2020 20 3 180", "told 2021 5 12 150", "close 2021")
NOT_UNDERSTOOD = "not understood"
# Longer than Python itself is ready to read.
LONG = "1" * 5000


class Desk(unittest.TestCase):
    def assert_answers(self, pairs, plan=PLAN):
        """Each row of the text has its answer."""
        rows = [row for row, answer in pairs]
        answers = played(plan, "\n".join(rows))
        self.assertIs(type(answers), list)
        self.assertEqual(list(zip(rows, answers)), list(pairs))
        self.assertEqual(len(answers), len(rows))

    def assert_answer(self, answer, *rows, plan=PLAN):
        """Each of the rows, behind the same start, has this answer, and changes nothing."""
        asked = ("list 2020", "list 2021", "used 2020", "share 7", "share 3", "share 12")
        expected = played(plan, "\n".join(START + asked))[len(START):]
        for row in rows:
            answers = played(plan, "\n".join(START + (row,) + asked))
            self.assertEqual(answers[len(START)], answer, repr(row[:80]))
            self.assertEqual(answers[len(START) + 1:], expected, repr(row[:80]))


class Rows(Desk):
    def test_a_book_played_through(self):
        self.assert_answers((
            ("told 2020 20 3 180", "told"),
            ("share 3", "100 : 50 30 : 0"),
            ("told 2020 10 7 400", "told"),
            ("share 7", "100 : 50 200 : 50"),
            ("share 3", "100 : 50 30 : 0"),
            ("used 2020", "100 230"),
            ("told 2020 20 12 150", "told"),
            ("share 12", "100 : 20 30 : 0"),
            ("list 2020", "7 3 12"),
            ("close 2020", "closed"),
            ("told 2020 1 1 1", "refused: Closed"),
            ("change 7 5", "refused: Closed"),
            ("back 7", "refused: Closed"),
            ("share 12", "100 : 20 30 : 0"),
            ("open 2020", "opened"),
            ("change 7 110", "changed"),
            ("share 12", "100 : 50 0 : 0"),
            ("back 3", "taken back"),
            ("list 2020", "7 12"),
            ("used 2020", "60 0"),
            ("share 3", "refused: Unknown"),
            ("told 2021 1 3 99", "told"),
            ("share 3", "99 : 0 0 : 0"),
            ("list 2021", "3"),
        ))

    def test_without_layers(self):
        self.assert_answers((
            ("used 2020", "none"),
            ("list 2020", "none"),
            ("told 2020 10 7 400", "told"),
            ("share 7", "100 : : 300"),
            ("used 2020", "none"),
            ("list 2020", "7"),
            ("change 7 0", "changed"),
            ("share 7", "0 : : 0"),
            ("back 7", "taken back"),
            ("list 2020", "none"),
        ), WITHOUT_LAYERS)

    def test_with_one_layer(self):
        self.assert_answers((
            ("told 0 1 0 75", "told"),
            ("share 0", "5 : 70 : 0"),
            ("used 0", "70"),
        ), (5, ((80, 90, (1,)),)))

    def test_a_year_without_damages(self):
        self.assert_answer("none", "list 2019", "list 0", "list 9999")
        self.assert_answer("0 0", "used 2019", "used 0", "used 9999")

    def test_the_greatest_numbers(self):
        self.assert_answers((
            ("told 9999 366 1000000000 1000000000000000", "told"),
            ("share 1000000000", "100 : 50 200 : 999999999999650"),
            ("change 1000000000 999999999999999", "changed"),
            ("share 1000000000", "100 : 50 200 : 999999999999649"),
            ("list 9999", "1000000000"),
            ("close 9999", "closed"),
            ("open 9999", "opened"),
            ("back 1000000000", "taken back"),
            ("told 0 1 0 0", "told"),
            ("share 0", "0 : 0 0 : 0"),
            ("close 0", "closed"),
            ("list 0", "0"),
        ))


class Refused(Desk):
    def test_no_damage(self):
        self.assert_answer(
            "refused: NoDamage",
            "told ", "told  ", "told x", "told 2020 1 5", "told 2020 1 5 5 5", "told  2020 1 5 5", "told 2020 1 5 5 ",
            "told 2020  1 5 5", "told 02020 1 5 5", "told 2020 01 5 5", "told 2020 1 5 05", "told 2020 1 5 -5",
            "told 10000 1 5 5", "told 2020 0 5 5", "told 2020 367 5 5", "told 2020 1 1000000001 5",
            "told 2020 1 5 1000000000000001", "told 2020 1 5 " + LONG, "told " + LONG, "told told 2020 1 5 5",
            "told 2020 1 5 5\r", "told 2020 1 5 5\t", "told 2020\t1 5 5", "told 2021 367 5 5", "told 2020 1 7 x",
        )

    def test_no_amount(self):
        self.assert_answer(
            "refused: NoDamage",
            "change 7 1000000000000001", "change 7 999999999999999999", "change 12 1000000000000001",
        )

    def test_known(self):
        self.assert_answer("refused: Known", "told 2020 10 7 400", "told 2020 1 7 5", "told 2019 1 12 5")

    def test_unknown(self):
        for deed in ("back", "share"):
            self.assert_answer(
                "refused: Unknown",
                f"{deed} 0", f"{deed} 99", f"{deed} 2020", f"{deed} 1000000001", f"{deed} 999999999999999999",
            )
        self.assert_answer(
            "refused: Unknown",
            "change 0 5", "change 99 5", "change 1000000001 5", "change 999999999999999999 999999999999999999",
        )

    def test_closed(self):
        self.assert_answer(
            "refused: Closed",
            "told 2021 1 5 5", "told 2021 1 7 5", "change 12 5", "change 12 150", "back 12", "close 2021",
        )

    def test_not_closed(self):
        self.assert_answer("refused: NotClosed", "open 2020", "open 2019", "open 0", "open 9999")

    def test_no_year(self):
        for deed in ("close", "open", "used", "list"):
            self.assert_answer("refused: NoYear", f"{deed} 10000", f"{deed} 1000000000", f"{deed} 999999999999999999")

    def test_no_plan(self):
        for thing in OTHER_THINGS + (list(PLAN), (-1, ()), (100, [])):
            for text in ("", "told 2020 10 7 400", "x"):
                with self.assertRaises(ClaimError) as caught:
                    played(thing, text)
                self.assertIs(type(caught.exception), NoPlan)


class NotUnderstood(Desk):
    def test_an_empty_row(self):
        self.assert_answer(NOT_UNDERSTOOD, "", " ", "  ")
        self.assertEqual(played(PLAN, ""), [NOT_UNDERSTOOD])
        self.assertEqual(played(PLAN, "\n"), [NOT_UNDERSTOOD] * 2)
        self.assertEqual(played(PLAN, "\n\nused 5\n\n"), [NOT_UNDERSTOOD] * 2 + ["0 0"] + [NOT_UNDERSTOOD] * 2)

    def test_a_text_that_ends_with_a_line_end(self):
        self.assertEqual(played(PLAN, "told 2020 10 7 400\n"), ["told", NOT_UNDERSTOOD])
        self.assertEqual(played(PLAN, "used 5\nlist 5\n"), ["0 0", "none", NOT_UNDERSTOOD])

    def test_other_words(self):
        self.assert_answer(
            NOT_UNDERSTOOD,
            "tell 2020 1 5 5", "Told 2020 1 5 5", "TOLD 2020 1 5 5", "told2020 1 5 5", "told", "told:2020 1 5 5",
            "taken 7", "taken back 7", "changed 7 5", "shares 7", "Share 7", "reopen 2021", "opened 2021", "closed 2020",
            "dues 2020", "years", "trail 7", "parts 7", "damage 7", "none", "7", "2020 1 5 5", ":", "share:7",
        )

    def test_more_or_fewer_words(self):
        for deed in ("back", "share", "close", "open", "used", "list"):
            self.assert_answer(
                NOT_UNDERSTOOD, deed, f"{deed} 7 7", f"{deed} 2020 2020", f"{deed} 7 7 7", f"{deed} {deed} 7", f"7 {deed}",
            )
        self.assert_answer(NOT_UNDERSTOOD, "change", "change 7", "change 7 5 5", "7 change 5", "change change 7 5")

    def test_a_blank_more_or_less(self):
        for deed in ("back", "share", "close", "open", "used", "list"):
            for number in ("7", "2020", "2021"):
                self.assert_answer(
                    NOT_UNDERSTOOD,
                    f" {deed} {number}", f"{deed} {number} ", f"{deed}  {number}", f"{deed}{number}", f"{deed} ",
                    f"{deed}\t{number}", f"{deed} {number}\r",
                )
        self.assert_answer(
            NOT_UNDERSTOOD,
            " change 7 5", "change 7 5 ", "change  7 5", "change 7  5", "change7 5", "change 75", "change 7 ",
            " told 2020 1 5 5", "\ttold 2020 1 5 5", "told\t2020 1 5 5",
        )

    def test_what_is_no_number(self):
        for word in (
            "x", "seven", "+7", "-7", "-0", "7.0", "7_0", "0x7", "7e0", "07", "007", "00", "02020", "None", "True",
            ":", "\u0667", "\u00b2", "\uff17", "7\u00a0",
        ):
            for deed in ("back", "share", "close", "open", "used", "list"):
                self.assert_answer(NOT_UNDERSTOOD, f"{deed} {word}")
            self.assert_answer(NOT_UNDERSTOOD, f"change {word} 5", f"change 7 {word}", f"change 99 {word}")

    def test_numbers_of_more_than_18_figures(self):
        for word in ("1" + "0" * 18, "9" * 19, "1" * 4300, LONG, "0" * 18 + "7", "0" * 19, "0" * 5000):
            for deed in ("back", "share", "close", "open", "used", "list"):
                self.assert_answer(NOT_UNDERSTOOD, f"{deed} {word}")
            self.assert_answer(NOT_UNDERSTOOD, f"change {word} 5", f"change 7 {word}", f"change 99 {word}")

    def test_other_line_ends_part_no_rows(self):
        for sign in ("\r", "\v", "\f", "\x1c", "\x1d", "\x1e", "\x85", "\u2028"):
            self.assertEqual(played(PLAN, f"used 5{sign}used 5"), [NOT_UNDERSTOOD], repr(sign))


class BooksOfTheirOwn(Desk):
    def test_a_second_text_starts_anew(self):
        text = "\n".join(START + ("list 2020", "list 2021"))
        first = played(PLAN, text)
        self.assertEqual(first, ["told", "told", "told", "closed", "7 3", "12"])
        first.append("x")
        first[0] = "y"
        self.assertEqual(played(PLAN, text), ["told", "told", "told", "closed", "7 3", "12"])
        self.assertEqual(
            played(PLAN, "list 2020\nused 2020\nshare 7\nopen 2021"),
            ["none", "0 0", "refused: Unknown", "refused: NotClosed"],
        )

    def test_many_rows(self):
        rows = [f"told 2020 {1 + number % 366} {number} {number}" for number in range(500)]
        answers = played(PLAN, "\n".join(rows + ["used 2020"] + rows))
        self.assertEqual(answers[:500], ["told"] * 500)
        self.assertEqual(answers[501:], ["refused: Known"] * 500)


if __name__ == "__main__":
    unittest.main()
