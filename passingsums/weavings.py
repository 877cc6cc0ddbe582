"""Weavings: runs of deeds between the blocks, what is read by them, and the totals met."""

from passingsums.books import is_number, is_tuple_of
from passingsums.bounds import MAX_RUNS, MAX_TIMES
from passingsums.shares import all_shares, whole_of


def weaving_error(book, order, value):
    """Return None for a weaving of book and order, otherwise the first fault of value."""
    if not _has_weaving_form(value):
        return "form"
    # At the stand 0 all is yet to be read: what is done there belongs to the begin.
    least = 1
    for place, run in enumerate(value):
        fault = _run_fault(book, order, least, run)
        if fault is not None:
            return (fault, place)
        least = run[0]
    return None


def _has_weaving_form(value):
    """Return whether value is a tuple of few enough triples of integers."""
    if not isinstance(value, tuple) or len(value) > MAX_RUNS:
        return False
    return all([_is_triple(item) for item in value])


def _is_triple(value):
    """Return whether value is a triple of integers."""
    return is_tuple_of(value, 3) and all([is_number(item) for item in value])


def _run_fault(book, order, least, run):
    """Return which part of a triple of integers is wrong, None if it is a run at the stand least or later."""
    _, rows = book
    stand, deed, times = run
    if not least <= stand < len(order):
        return "stand"
    if not 0 <= deed < len(rows):
        return "deed"
    if not 1 <= times <= MAX_TIMES:
        return "times"
    return None


def read_of(book, order, begin, weaving):
    """Return what is read: the begin's total, and of each deed done the share at its stand."""
    shares = all_shares(book, order)
    return sum(begin) + sum([times * shares[deed][stand] for stand, deed, times in weaving])


def span_met(book, order, begin, weaving):
    """Return the pair of the least and the greatest total met."""
    # Within a run the totals go one way: the least and the greatest stand at an end of a run.
    totals = totals_between(book, begin, weaving)
    return (min(totals), max(totals))


def is_met(book, order, begin, weaving, value):
    """Return whether value is an integer that is a total met."""
    if not is_number(value):
        return False
    totals = totals_between(book, begin, weaving)
    ways = [
        _is_on_way(value - total, whole_of(book, deed), times)
        for total, (_, deed, times) in zip(totals, weaving)
    ]
    return value == totals[0] or any(ways)


def totals_between(book, begin, weaving):
    """Return the list of the totals ahead of the runs and behind each of them."""
    totals = [sum(begin)]
    for _, deed, times in weaving:
        totals.append(totals[-1] + times * whole_of(book, deed))
    return totals


def _is_on_way(far, whole, times):
    """Return whether far is whole taken so many times, or fewer, or not at all."""
    if whole == 0:
        return far == 0
    return far % whole == 0 and 0 <= far // whole <= times


def run_pairs(blocks, number):
    """Return the list of all pairs of places that two runs may have, one done behind the other.

    A place is a pair of a stand and one of so many deeds.
    """
    places = [(stand, deed) for stand in range(1, blocks) for deed in range(number)]
    return [(first, second) for first in places for second in places if first[0] <= second[0]]
