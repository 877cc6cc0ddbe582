"""Records of what a reader told of the blocks, and when it can have read them."""

from passingsums.books import is_number, is_tuple_of, is_tuple_within, is_within
from passingsums.bounds import MAX_DONE
from passingsums.errors import Impossible, Unfit
from passingsums.numbering import count_ahead, pick
from passingsums.shares import block_sums, whole_of

MAX_BEGIN = 1000000000


def record_error(book, order, value):
    """Return None for a record of book and order, otherwise the first fault of value."""
    if not is_tuple_of(value, 3) or not all([isinstance(item, tuple) for item in value]):
        return "form"
    many, rows = book
    begin, deeds, told = value
    if not is_tuple_within(begin, many, MAX_BEGIN):
        return "begin"
    if len(deeds) > MAX_DONE:
        return "long"
    for place, deed in enumerate(deeds):
        if not is_within(deed, 0, len(rows) - 1):
            return ("deed", place)
    return None if _is_row_of_numbers(told, len(order)) else "told"


def _is_row_of_numbers(value, length):
    """Return whether value is a tuple of so many integers."""
    return is_tuple_of(value, length) and all([is_number(item) for item in value])


def earliest(book, order, record):
    """Return the placing with the least integers; raise Impossible(block) if there is none."""
    return tuple(_greedy(_possible_numbers(book, order, record), 0))


def latest(book, order, record):
    """Return the placing with the greatest integers; raise Impossible(block), as earliest does, if there is none."""
    _, deeds, _ = record
    most, placing = len(deeds), []
    for numbers in reversed(_possible_numbers(book, order, record)):
        most = max([number for number in numbers if number <= most])
        placing.append(most)
    return tuple(placing[::-1])


def placings(book, order, record):
    """Return how many placings the record has."""
    return _counts(_fitting_numbers(book, order, record), record)[0][0]


def placing_at(book, order, record, value):
    """Return the placing with this number; raise Unfit() if value is none."""
    fitting = _fitting_numbers(book, order, record)
    least, number, placing = 0, value, []
    for numbers, ways in zip(fitting, _counts(fitting, record)[1:]):
        least, number = pick(_choices(numbers, ways, least), number)
        placing.append(least)
    return tuple(placing)


def placing_number(book, order, record, value):
    """Return the number of the placing value; raise Unfit() if it is none."""
    if not _is_row_of_numbers(value, len(order)):
        raise Unfit()
    fitting = _fitting_numbers(book, order, record)
    number, least = 0, 0
    for place, numbers, ways in zip(value, fitting, _counts(fitting, record)[1:]):
        number += count_ahead(_choices(numbers, ways, least), place)
        least = place
    return number


def met_word(book, order, record):
    """Return whether what was read surely, perhaps or never is one of the totals met."""
    _, _, told = record
    return _word([sum(told) in totals for totals in _totals_met(book, order, record)])


def between_word(book, order, record):
    """Return whether what was read surely, perhaps or never lies between the least and the greatest total met."""
    _, _, told = record
    return _word([min(totals) <= sum(told) <= max(totals) for totals in _totals_met(book, order, record)])


def _word(answers):
    """Return "surely" if all answers are yes, "perhaps" if some are, "never" if none is."""
    if all(answers):
        return "surely"
    return "perhaps" if any(answers) else "never"


def _fitting_numbers(book, order, record):
    """Return for each block the list of all n: behind the first n deeds its cells have the sum that is told."""
    _, rows = book
    begin, deeds, told = record
    changes = [block_sums(book, order, deed) for deed in range(len(rows))]
    found = []
    for place, block in enumerate(order):
        sums = [sum([begin[cell] for cell in block])]
        for deed in deeds:
            sums.append(sums[-1] + changes[deed][place])
        found.append([number for number, block_sum in enumerate(sums) if block_sum == told[place]])
    return found


def _possible_numbers(book, order, record):
    """Return what _fitting_numbers does; raise Impossible(block) at the block at which greed fails."""
    fitting = _fitting_numbers(book, order, record)
    taken = _greedy(fitting, 0)
    if len(taken) < len(fitting):
        raise Impossible(len(taken))
    return fitting


def _greedy(fitting, least):
    """Return the list of the least numbers that fit and do not fall, up to the first block for which none is left."""
    reached, taken = least, []
    for numbers in fitting:
        later = [number for number in numbers if number >= reached]
        if len(later) == 0:
            return taken
        reached = later[0]
        taken.append(reached)
    return taken


def _counts(fitting, record):
    """Return for each block, and for the end, a list: how many ways go on from there with n or more, at the place n."""
    _, deeds, _ = record
    counts = [[1] * (len(deeds) + 1)]
    for numbers in reversed(fitting):
        row = [0]
        for number in range(len(deeds), -1, -1):
            row.append(row[-1] + (counts[-1][number] if number in numbers else 0))
        counts.append(row[:0:-1])
    return counts[::-1]


def _choices(numbers, ways, least):
    """Return the choices of a block: the numbers that fit, from least on, each with the ways that go on from it."""
    return [(number, ways[number]) for number in numbers if number >= least]


def _totals_met(book, order, record):
    """Return the list of the totals that the placings meet, once for each pair of their first and last number.

    Raise Impossible(block) if there is no placing.
    """
    begin, deeds, _ = record
    totals = [sum(begin)]
    for deed in deeds:
        totals.append(totals[-1] + whole_of(book, deed))
    return [totals[first:last + 1] for first, last in _ends(_possible_numbers(book, order, record))]


def _ends(fitting):
    """Return the list of the pairs of the first and the last number that placings have."""
    if len(fitting) == 1:
        return [(number, number) for number in fitting[0]]
    found = []
    for first in fitting[0]:
        taken = _greedy(fitting[1:], first)
        if len(taken) == len(fitting) - 1:
            # Whatever fits the last block, and is not less than greed takes there, ends a placing.
            found = found + [(first, last) for last in fitting[-1] if last >= taken[-1]]
    return found
