"""Damages: what they are, their order, and how they are written and read."""

from claimlayers.bounds import is_row, is_whole, number_written
from claimlayers.errors import NoDamage

MOST_YEAR = 9999
MOST_DAY = 366
MOST_NUMBER = 10 ** 9
MOST_AMOUNT = 10 ** 15


def is_damage(thing):
    """Tell whether the thing, whatever it is, is a damage (year, day, number, amount)."""
    if not is_row(thing, 4, 4):
        return False
    year, day, number, amount = thing
    return is_year(year) and is_whole(day, 1, MOST_DAY) and is_number(number) and is_amount(amount)


def is_year(thing):
    """Tell whether the thing, whatever it is, is a year of damages."""
    return is_whole(thing, 0, MOST_YEAR)


def is_number(thing):
    """Tell whether the thing, whatever it is, is a number under which a damage may stand."""
    return is_whole(thing, 0, MOST_NUMBER)


def is_amount(thing):
    """Tell whether the thing, whatever it is, is an amount of a damage."""
    return is_whole(thing, 0, MOST_AMOUNT)


def ahead(one, other):
    """Tell whether the one damage is ahead of the other, by year, day and number."""
    return one[:3] < other[:3]


def written(damage):
    """Answer the damage as a text, which read turns into the same damage."""
    year, day, number, amount = damage
    return f"{year} {day} {number} {amount}"


def read(line):
    """Answer the damage that the line tells; refuse any other line with NoDamage."""
    damage = tuple([number_written(word) for word in line.split(" ")])
    if not is_damage(damage):
        raise NoDamage("the line is no damage as it is written")
    return damage
