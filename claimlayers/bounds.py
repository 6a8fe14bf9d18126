"""What is a whole number within bounds, and what is a tuple of so many things."""

# Both ask for the very kind: isinstance would take True and False for numbers,
# and would let in numbers and tuples with ways of their own to compare and count.


def is_whole(thing, least, most):
    """Tell whether the thing is a whole number from least to most."""
    return type(thing) == int and least <= thing <= most


def is_row(thing, least, most):
    """Tell whether the thing is a tuple of least to most things."""
    return type(thing) == tuple and least <= len(thing) <= most
