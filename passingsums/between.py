"""Papers that what is read lies between the totals met, whatever is woven in."""

from passingsums.breaks import two_runs
from passingsums.errors import Breaks
from passingsums.papers import is_alike, one_row
from passingsums.shares import all_shares, are_of_both_signs, is_part
from passingsums.weavings import read_of, span_met, weaving_error


def between_paper(book, order):
    """Return the paper that book is right in order; raise Breaks(weaving) if there is none."""
    paper = find_paper(book, order)
    if paper is None:
        _, weaving = two_runs(book, order)
        raise Breaks(weaving)
    return paper


def between_holds(book, order, value):
    """Return whether value is the paper that book is right in order."""
    paper = find_paper(book, order)
    return paper is not None and is_alike(value, paper)


def breaks_between(book, order, value):
    """Return whether value is a weaving by which one reads less, or more, than all totals met."""
    if weaving_error(book, order, value) is not None:
        return False
    many, _ = book
    begin = (0,) * many
    least, greatest = span_met(book, order, begin, value)
    return not least <= read_of(book, order, begin, value) <= greatest


def find_paper(book, order):
    """Return the paper that book is right in order, None if there is none."""
    shares = all_shares(book, order)
    wholes = [row[0] for row in shares]
    if are_of_both_signs(wholes):
        parts = one_row(shares)
        return None if parts is None else ("one row", parts)
    if all([is_part(share, row[0]) for row in shares for share in row]):
        # No two wholes have unlike signs, so their sum has the sign of each that has one.
        return ("one sign", _sign(sum(wholes)))
    return None


def _sign(number):
    """Return 1 for a number above 0, -1 for one below 0, and 0 for 0."""
    if number == 0:
        return 0
    return 1 if number > 0 else -1
