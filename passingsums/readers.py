"""What two readers of one order, neither of which overtakes the other, can tell one another."""

from passingsums.errors import NoBreak
from passingsums.shares import all_shares, block_sums


def more_read(book, order, steps):
    """Return how much more the second reader reads than the first one."""
    shares = all_shares(book, order)
    return sum([shares[deed][second] - shares[deed][first] for first, second, deed in steps])


def never_less(book, order):
    """Return whether the second reader never reads less than the first one."""
    return len(_single_steps_back(book, order)) == 0


def never_back(book, order):
    """Return whether the second reader never reads less than the first one if it begins behind it."""
    return all([0 <= share <= row[0] for row in all_shares(book, order) for share in row])


def back_steps(book, order):
    """Return steps of one deed by which the second reader reads less; raise NoBreak() if there are none."""
    found = _single_steps_back(book, order)
    if len(found) == 0:
        raise NoBreak()
    return (found[0],)


def _single_steps_back(book, order):
    """Return the list of triples at which the second reader lacks just one block, and reads less by it."""
    _, rows = book
    return [
        (block + 1, block, deed)
        for deed in range(len(rows))
        for block, block_sum in enumerate(block_sums(book, order, deed))
        if block_sum < 0
    ]
