"""Years: the damages of one year, each with its share behind those ahead of it."""

from claimlayers.damages import ahead
from claimlayers.sharing import behind, shared


class Year:
    """The damages of one year under a plan, in their order, from nothing used on."""

    def __init__(self, plan):
        self.plan = plan
        self.row = []

    # A changed row is a new list, so that one that was read before stays as it is.

    def put(self, damage):
        """Let the damage stand there at its place, of a number that no damage there has."""
        place = len(self.row)
        while place > 0 and ahead(damage, self.row[place - 1]):
            place -= 1
        self.row = self.row[:place] + [damage] + self.row[place:]

    def drop(self, number):
        """Let the damage of the number go."""
        self.row = [damage for damage in self.row if damage[2] != number]

    def damages(self):
        """Answer the list of the damages, in order."""
        return list(self.row)

    def shares(self):
        """Answer the list of the shares of all damages, in order."""
        used = self._nothing()
        shares = []
        for damage in self.row:
            share = shared(self.plan, used, damage[3])
            shares.append(share)
            used = behind(used, share[1])
        return shares

    def used(self):
        """Answer the list of what is used of each layer's year behind all damages."""
        return self._used_by(self.shares())

    def share(self, number):
        """Answer the share (own, paid, left) of the damage of the number."""
        return self.shares()[self._place(number)]

    def trail(self, number):
        """Answer (ahead, paid, behind) of each layer for the damage of the number."""
        shares = self.shares()
        place = self._place(number)
        used = self._used_by(shares[:place])
        paid = shares[place][1]
        return list(zip(used, paid, behind(used, paid)))

    def _nothing(self):
        """Answer the list of what is used of each layer's year ahead of all damages."""
        return [0] * len(self.plan[1])

    def _used_by(self, shares):
        """Answer the list of what these shares together use of each layer's year."""
        used = self._nothing()
        for share in shares:
            used = behind(used, share[1])
        return used

    def _place(self, number):
        """Answer at which place the damage of the number stands."""
        return [damage[2] for damage in self.row].index(number)
