"""Papers that what is read is one of the totals met, whatever is woven in."""

from passingsums.books import is_number, is_tuple_of, is_within
from passingsums.errors import Breaks
from passingsums.shares import all_shares
from passingsums.weavings import is_met, read_of, run_pairs, weaving_error


def met_paper(book, order):
    """Return a paper that book meets in order what is read, of one amount ahead of one block.

    Raise Breaks(weaving) if there is none, with at most two deeds.
    """
    shares = all_shares(book, order)
    amount = _amounts(shares)[0]
    if _is_amount(shares, amount):
        return ("one amount", amount)
    for block in range(len(order)):
        if _is_seen_in(shares, block):
            return ("one block", block)
    raise Breaks(_breaking_weaving(shares, len(order)))


def met_holds(book, order, value):
    """Return whether value is a paper that book meets in order what is read."""
    if not is_tuple_of(value, 2):
        return False
    shares = all_shares(book, order)
    word, number = value
    if word == "one amount":
        return is_number(number) and _is_amount(shares, number)
    return word == "one block" and is_within(number, 0, len(order) - 1) and _is_seen_in(shares, number)


def breaks_met(book, order, value):
    """Return whether value is a weaving by which one reads what is none of the totals met."""
    if weaving_error(book, order, value) is not None:
        return False
    many, _ = book
    begin = (0,) * many
    return not is_met(book, order, begin, value, read_of(book, order, begin, value))


def _amounts(shares):
    """Return the list of the wholes that are not 0, or that of 0 alone if all are 0."""
    amounts = [row[0] for row in shares if row[0] != 0]
    return amounts if len(amounts) > 0 else [0]


def _is_amount(shares, amount):
    """Return whether each deed is seen whole or not at all, and changes the total by amount or not at all."""
    return all([whole == amount for whole in _amounts(shares)]) and _odd_place(shares) is None


def _odd_place(shares):
    """Return a pair of stand and deed at which neither all of the deed is seen nor nothing, None if there is none."""
    for deed, row in enumerate(shares):
        for stand, share in enumerate(row):
            if share not in (0, row[0]):
                return (stand, deed)
    return None


def _is_seen_in(shares, block):
    """Return whether all of each deed is seen in this one block, and nothing in the other ones."""
    return all([
        share == (row[0] if stand <= block else 0)
        for row in shares
        for stand, share in enumerate(row)
    ])


def _breaking_weaving(shares, blocks):
    """Return a weaving of one deed, or of two, by which one reads no total met, if there is no paper."""
    odd = _odd_place(shares)
    if odd is not None:
        stand, deed = odd
        return ((stand, deed, 1),)
    pairs = run_pairs(blocks, len(shares))
    found = [pair for pair in pairs if _is_missed(shares, pair)]
    (stand, first), (later, second) = found[0]
    return ((stand, first, 1), (later, second, 1))


def _is_missed(shares, pair):
    """Return whether two deeds, each done once, lead to a read that is no total met."""
    (stand, first), (later, second) = pair
    whole = shares[first][0]
    read = shares[first][stand] + shares[second][later]
    return read not in (0, whole, whole + shares[second][0])
