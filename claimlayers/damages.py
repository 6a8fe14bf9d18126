"""Damages: what they are, their order, and how they are written and read."""

from claimlayers.bounds import is_row, is_whole
from claimlayers.errors import NoDamage

MOST_YEAR = 9999
MOST_DAY = 366
MOST_NUMBER = 10 ** 9
MOST_AMOUNT = 10 ** 15
MOST_FIGURES = 16


def is_damage(thing):
    """Tell whether the thing, whatever it is, is a damage (year, day, number, amount)."""
    if not is_row(thing, 4, 4):
        return False
    year, day, number, amount = thing
    if not is_whole(year, 0, MOST_YEAR) or not is_whole(day, 1, MOST_DAY):
        return False
    return is_whole(number, 0, MOST_NUMBER) and is_whole(amount, 0, MOST_AMOUNT)


def ahead(one, other):
    """Tell whether the one damage is ahead of the other, by year, day and number."""
    return one[:3] < other[:3]


def written(damage):
    """Answer the damage as a text, which read turns into the same damage."""
    year, day, number, amount = damage
    return f"{year} {day} {number} {amount}"


def read(line):
    """Answer the damage that the line tells; refuse any other line with NoDamage."""
    damage = tuple([_number(word) for word in line.split(" ")])
    if not is_damage(damage):
        raise NoDamage("the line is no damage as it is written")
    return damage


def _number(word):
    """Answer the number that the word writes, or None where no damage has such a number."""
    if not word.isascii() or not word.isdigit():
        return None
    if word.startswith("0") and word != "0":
        return None
    # Python refuses to read some thousands of figures, with an error of its own.
    if len(word) > MOST_FIGURES:
        return None
    return int(word)
