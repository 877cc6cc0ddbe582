"""What a reader sees of a deed that is done while the blocks are read one behind another."""


def block_sums(book, order, deed):
    """Return the tuple of the sums of the deed's items in the blocks of order."""
    _, rows = book
    row = rows[deed]
    return tuple([sum([row[cell] for cell in block]) for block in order])


def shares_of(book, order, deed):
    """Return the tuple of what is seen of the deed at each stand, from 0 to the number of blocks."""
    shares = [0]
    for block_sum in reversed(block_sums(book, order, deed)):
        shares.append(shares[-1] + block_sum)
    return tuple(shares[::-1])


def is_still(book, order, deed):
    """Return whether nothing is seen of the deed at any stand."""
    return all([share == 0 for share in shares_of(book, order, deed)])


def all_shares(book, order):
    """Return the tuple of the shares of all deeds."""
    _, rows = book
    return tuple([shares_of(book, order, deed) for deed in range(len(rows))])


def whole_of(book, deed):
    """Return by how much the deed changes the total of all cells, whatever the order is."""
    _, rows = book
    return sum(rows[deed])


def are_of_both_signs(wholes):
    """Return whether some wholes are above 0 and some below."""
    return min(wholes, default=0) < 0 < max(wholes, default=0)


def is_part(share, whole):
    """Return whether share lies between 0 and whole, both let."""
    return min(0, whole) <= share <= max(0, whole)
