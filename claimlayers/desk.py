"""A desk: rows of text done on a book of their own, each with an answer."""

from claimlayers.books import Book
from claimlayers.bounds import number_written
from claimlayers.damages import read
from claimlayers.errors import ClaimError

TOLD = "told "
NOTHING = "none"


def played(plan, text):
    """Answer the list of the answers to the rows of the text, on a new book of the plan."""
    book = Book(plan)
    return [_answer(book, row) for row in text.split("\n")]


def _answer(book, row):
    """Do one row on the book, and answer it, also where it is refused."""
    try:
        return _done(book, row)
    except ClaimError as refusal:
        return "refused: " + type(refusal).__name__


def _done(book, row):
    """Do one row on the book, and answer it."""
    if row.startswith(TOLD):
        book.told(read(row.removeprefix(TOLD)))
        return "told"
    words = row.split(" ")
    numbers = [number_written(word) for word in words[1:]]
    key = (words[0], len(numbers))
    if key not in DEEDS or None in numbers:
        return "not understood"
    deed = DEEDS[key]
    return deed(book, *numbers)


def _change(book, number, amount):
    """Change a damage."""
    book.change(number, amount)
    return "changed"


def _back(book, number):
    """Take back a damage."""
    book.back(number)
    return "taken back"


def _close(book, year):
    """Close a year."""
    book.close(year)
    return "closed"


def _reopen(book, year):
    """Open a year again."""
    book.reopen(year)
    return "opened"


def _share(book, number):
    """Answer the share of a damage, with a colon on both sides of what the layers pay."""
    own, paid, left = book.share(number)
    return _joined([own, ":"] + paid + [":", left])


def _used(book, year):
    """Answer what is used of each layer behind all damages of a year."""
    return _joined(book.used(year)) or NOTHING


def _listed(book, year):
    """Answer the numbers of the damages of a year, in order."""
    return _joined([damage[2] for damage in book.damages(year)]) or NOTHING


def _joined(things):
    """Answer the things as one text, with one blank between."""
    return " ".join([str(thing) for thing in things])


# What is done for a word with so many numbers behind it.
DEEDS = {
    ("change", 2): _change,
    ("back", 1): _back,
    ("close", 1): _close,
    ("open", 1): _reopen,
    ("share", 1): _share,
    ("used", 1): _used,
    ("list", 1): _listed,
}
