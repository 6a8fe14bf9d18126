"""Shares: the own part of an amount, what each layer pays of it, and what is left."""


def shared(plan, used, amount):
    """Answer the share (own, paid, left) of the amount, where so much of each layer's year is used."""
    own_part, layers = plan
    own = min(amount, own_part)
    left = amount - own
    paid = []
    for (most, year, _), gone in zip(layers, used):
        pays = min(left, most, year - gone)
        paid.append(pays)
        left -= pays
    return own, paid, left


def behind(used, paid):
    """Answer the list of what is used of each layer's year behind what the layers pay."""
    return [gone + pays for gone, pays in zip(used, paid)]
