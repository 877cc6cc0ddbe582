"""In which orders a book may be read: chains of lots of cells that are not yet read."""

from math import factorial

from passingsums.between import find_paper
from passingsums.errors import Unfit
from passingsums.numbering import count_ahead, pick
from passingsums.papers import fraction
from passingsums.shares import are_of_both_signs, is_part


def is_good(book, cells):
    """Return whether the lot cells is good: whether it may be what is left to read."""
    _, rows = book
    wholes = [sum(row) for row in rows]
    shares = [sum([row[cell] for cell in cells]) for row in rows]
    if not all([is_part(share, whole) for share, whole in zip(shares, wholes)]):
        return False
    if not are_of_both_signs(wholes):
        return True
    parts = [fraction(share, whole) for share, whole in zip(shares, wholes) if whole != 0]
    return all([part == parts[0] for part in parts])


def right_orders(book):
    """Return how many plain orders are right."""
    return _count(_plain_choices(book)[_all_cells(book)])


def order_at(book, value):
    """Return the right plain order with this number; raise Unfit() if value is none."""
    choices = _plain_choices(book)
    rest, number, order = _all_cells(book), value, []
    while len(rest) > 0:
        cell, number = pick(choices[rest], number)
        order.append((cell,))
        rest = _without(rest, (cell,))
    return tuple(order)


def order_number(book, order):
    """Return the number of order; raise Unfit() if it is not plain, or not right."""
    choices = _plain_choices(book)
    rest, number = _all_cells(book), 0
    for block in order:
        if len(block) > 1:
            raise Unfit()
        number += count_ahead(choices[rest], block[0])
        rest = _without(rest, block)
    return number


def most_blocks(book):
    """Return the greatest number of blocks that a right order has."""
    return len(finest(book))


def finest(book):
    """Return a right order with the greatest number of blocks."""
    slopes = _slopes(book)
    best = {(): ()}
    for lot in _good_lots(book):
        best[lot] = max(_ways_on(slopes, best, lot), key=len)
    return best[_all_cells(book)]


def every_order(book):
    """Return whether all plain orders are right."""
    many, _ = book
    return right_orders(book) == factorial(many)


def kept_right(book, order):
    """Return how many deeds, at most, order is right for, and an ascending tuple of so many such deeds."""
    many, rows = book
    lots = _lots_of(list(range(len(rows))))
    kept = [lot for lot in lots if find_paper((many, tuple([rows[deed] for deed in lot])), order) is not None]
    deeds = max(kept, key=len)
    return (len(deeds), deeds)


def _all_cells(book):
    """Return the lot of all cells."""
    many, _ = book
    return tuple(range(many))


def _lots_of(items):
    """Return the list of all tuples of some of the items, as they stand; each one behind those that it holds."""
    lots = [()]
    for item in items:
        lots = lots + [lot + (item,) for lot in lots]
    return lots


def _without(lot, cells):
    """Return the lot without these cells."""
    return tuple([cell for cell in lot if cell not in cells])


def _good_lots(book):
    """Return the list of all good lots but (), each one behind those that it holds."""
    lots = _lots_of(_all_cells(book))
    return [lot for lot in lots[1:] if is_good(book, lot)]


def _slopes(book):
    """Return a row of which no block that is read in a right order has a sum below 0.

    With wholes of both signs the part that is left may not rise: it falls by what a deed
    with a whole above 0 has in the block. Otherwise nothing is asked.
    """
    many, rows = book
    if not are_of_both_signs([sum(row) for row in rows]):
        return (0,) * many
    rising = [row for row in rows if sum(row) > 0]
    return rising[0]


def _plain_choices(book):
    """Return a dict: for each good lot but (), the choices of the cell that is read next, with the ways that go on."""
    slopes = _slopes(book)
    counts, choices = {(): 1}, {}
    for lot in _good_lots(book):
        choices[lot] = [(cell, counts.get(_without(lot, (cell,)), 0)) for cell in lot if slopes[cell] >= 0]
        counts[lot] = _count(choices[lot])
    return choices


def _count(choices):
    """Return how many ways go on from all choices together."""
    return sum([ways for _, ways in choices])


def _ways_on(slopes, best, lot):
    """Return the list of ways to read the lot: for each block that may be read first, with the best way behind it."""
    found = []
    for rest in _lots_of(lot)[:-1]:
        block = _without(lot, rest)
        if rest in best and sum([slopes[cell] for cell in block]) >= 0:
            found.append((block,) + best[rest])
    return found
