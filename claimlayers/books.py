"""Books: damages told, changed and taken back, years closed and opened again."""

from claimlayers.damages import is_amount, is_damage, is_number, is_year
from claimlayers.errors import Closed, Known, NoDamage, NoPlan, NotClosed, NoYear, Unknown
from claimlayers.plans import is_plan, split
from claimlayers.years import Year


class Book:
    """A plan, and the damages that stand under it, each under its number."""

    def __init__(self, plan):
        if not is_plan(plan):
            raise NoPlan("a book needs a plan")
        self.plan = plan
        self._standing = {}
        # Only years of which damages stand here have an entry.
        self._years = {}
        self._closed = {}

    def told(self, damage):
        """Let the damage stand in the book."""
        if not is_damage(damage):
            raise NoDamage("what was told is no damage")
        self._refuse_closed(damage)
        if self.stands(damage[2]):
            raise Known("a damage of this number stands here already")
        self._put(damage)

    def change(self, number, amount):
        """Give the damage of the number another amount."""
        damage = self.damage(number)
        if not is_amount(amount):
            raise NoDamage("what was told is no amount")
        self._refuse_closed(damage)
        self._drop(damage)
        self._put(damage[:3] + (amount,))

    def back(self, number):
        """Take back the damage of the number."""
        damage = self.damage(number)
        self._refuse_closed(damage)
        self._drop(damage)

    def close(self, year):
        """Close the year: its damages stay as they are till it is opened again."""
        if self.closed(year):
            raise Closed("the year is closed already")
        self._closed[year] = True

    def reopen(self, year):
        """Open the closed year again."""
        if not self.closed(year):
            raise NotClosed("the year is not closed")
        del self._closed[year]

    def stands(self, number):
        """Tell whether a damage stands under the number, whatever that is."""
        return is_number(number) and number in self._standing

    def closed(self, year):
        """Tell whether the year is closed."""
        _refuse_no_year(year)
        return year in self._closed

    def damage(self, number):
        """Answer the damage that stands under the number."""
        if not self.stands(number):
            raise Unknown("no damage of this number stands here")
        return self._standing[number]

    def share(self, number):
        """Answer the share (own, paid, left) of the damage of the number."""
        return self._year(self.damage(number)[0]).share(number)

    def trail(self, number):
        """Answer (ahead, paid, behind) of each layer for the damage of the number."""
        return self._year(self.damage(number)[0]).trail(number)

    def parts(self, number):
        """Answer for each layer the list of what its covers pay for the damage of the number."""
        paid = self.share(number)[1]
        return [split(pays, layer[2]) for pays, layer in zip(paid, self.plan[1])]

    def damages(self, year):
        """Answer the list of the damages of the year, in order."""
        return self._year(year).damages()

    def used(self, year):
        """Answer the list of what is used of each layer behind all damages of the year."""
        return self._year(year).used()

    def years(self):
        """Answer the list of the years of which damages stand here, rising."""
        return sorted(self._years)

    def dues(self, year):
        """Answer for each layer the list of what its covers pay in the year."""
        shares = self._year(year).shares()
        return [
            _dues_of_layer([share[1][place] for share in shares], layer[2])
            for place, layer in enumerate(self.plan[1])
        ]

    def _refuse_closed(self, damage):
        """Refuse what would be done to the damage while its year is closed."""
        if self.closed(damage[0]):
            raise Closed("the year of the damage is closed")

    def _year(self, year):
        """Answer what stands here of the year, which may be nothing."""
        _refuse_no_year(year)
        return self._years.get(year, Year(self.plan))

    def _put(self, damage):
        """Let the damage stand here and in its year."""
        year = damage[0]
        if year not in self._years:
            self._years[year] = Year(self.plan)
        self._years[year].put(damage)
        self._standing[damage[2]] = damage

    def _drop(self, damage):
        """Let the damage go from here and from its year."""
        year = damage[0]
        self._years[year].drop(damage[2])
        if not self._years[year].damages():
            del self._years[year]
        del self._standing[damage[2]]


def _refuse_no_year(thing):
    """Refuse what is no year, whatever it is."""
    if not is_year(thing):
        raise NoYear("what was told is no year")


def _dues_of_layer(payments, weights):
    """Answer the list of what each cover of a layer pays of all that the layer pays."""
    dues = [0] * len(weights)
    for paid in payments:
        dues = [due + part for due, part in zip(dues, split(paid, weights))]
    return dues
