"""Books written out as texts, and read back."""

from passingsums.books import MAX_ITEM, book_error
from passingsums.errors import BadText


def book_text(book):
    """Return the text of book: its number of cells, and behind it a word for each row."""
    many, rows = book
    return f"{many}:" + "".join([" " + _row_word(row) for row in rows])


def _row_word(row):
    """Return the integers of row in decimal, with commas between."""
    return ",".join([str(item) for item in row])


def read_book(value):
    """Return the book of which value is the text; raise BadText() if it is the text of none."""
    if not isinstance(value, str):
        raise BadText()
    head, colon, tail = value.partition(":")
    words = tail.split(" ")
    # A blank stands ahead of each word: so nothing may stand ahead of the first blank.
    if colon == "" or words[0] != "":
        raise BadText()
    numbers = _numbers()
    book = (numbers.get(head), tuple([_read_row(numbers, word) for word in words[1:]]))
    if book_error(book) is not None:
        raise BadText()
    return book


def _numbers():
    """Return a dict of all integers that a row may hold, by their decimals.

    A word that is looked up here is the one decimal of its integer: int would let
    noughts ahead, blanks and other signs pass, and fails at very long words.
    """
    return {str(number): number for number in range(-MAX_ITEM, MAX_ITEM + 1)}


def _read_row(numbers, word):
    """Return the row that word tells, with None in the place of each item that is no decimal."""
    return tuple([numbers.get(item) for item in word.split(",")])
