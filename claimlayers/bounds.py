"""What is a whole number within bounds, a tuple of so many things, a number written in figures."""

MOST_FIGURES = 18

# The first two ask for the very kind: isinstance would take True and False for numbers,
# and would let in numbers and tuples with ways of their own to compare and count.


def is_whole(thing, least, most):
    """Tell whether the thing is a whole number from least to most."""
    return type(thing) == int and least <= thing <= most


def is_row(thing, least, most):
    """Tell whether the thing is a tuple of least to most things."""
    return type(thing) == tuple and least <= len(thing) <= most


def number_written(word):
    """Answer the number that the word writes in figures, or None where it writes none."""
    if not word.isascii() or not word.isdigit():
        return None
    if word.startswith("0") and word != "0":
        return None
    # Python refuses to read some thousands of figures, with an error of its own.
    if len(word) > MOST_FIGURES:
        return None
    return int(word)
