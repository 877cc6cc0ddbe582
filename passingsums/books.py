"""Books of deeds, and the orders in which a reader goes through their cells."""

from passingsums.bounds import MAX_CELLS, MAX_ROWS

MAX_ITEM = 99


def is_number(value):
    """Return whether value is an integer: an int that is no bool."""
    return isinstance(value, int) and not isinstance(value, bool)


def is_within(value, least, most):
    """Return whether value is an integer from least to most, both too."""
    return is_number(value) and least <= value <= most


def is_tuple_of(value, length):
    """Return whether value is a tuple of so many items."""
    return isinstance(value, tuple) and len(value) == length


def is_tuple_within(value, length, most):
    """Return whether value is a tuple of so many integers from -most to most."""
    return is_tuple_of(value, length) and all([is_within(item, -most, most) for item in value])


def book_error(value):
    """Return None for a book, otherwise the first fault of value."""
    if not _has_book_form(value):
        return "form"
    many, rows = value
    for place, row in enumerate(rows):
        if not is_tuple_within(row, many, MAX_ITEM):
            return ("row", place)
    return None


def _has_book_form(value):
    """Return whether value is a pair of a number of cells and few enough rows."""
    if not is_tuple_of(value, 2):
        return False
    many, rows = value
    return is_within(many, 1, MAX_CELLS) and isinstance(rows, tuple) and len(rows) <= MAX_ROWS


def order_error(many, value):
    """Return None for an order of so many cells, otherwise the first fault of value."""
    if not _is_tuple_of_tuples(value):
        return "form"
    for place, block in enumerate(value):
        if not _is_block(many, block):
            return ("block", place)
    return _cover_error(many, value)


def _is_tuple_of_tuples(value):
    """Return whether value is a tuple, and each of its items is one."""
    return isinstance(value, tuple) and all([isinstance(item, tuple) for item in value])


def _is_block(many, block):
    """Return whether the tuple block is ascending, of cells below many, and not empty."""
    least = 0
    for cell in block:
        if not is_within(cell, least, many - 1):
            return False
        least = cell + 1
    return len(block) > 0


def _cover_error(many, blocks):
    """Return None if each cell stands in just one of blocks, otherwise the first fault."""
    counts = [len([block for block in blocks if cell in block]) for cell in range(many)]
    for cell, count in enumerate(counts):
        if count > 1:
            return ("twice", cell)
    for cell, count in enumerate(counts):
        if count == 0:
            return ("lacks", cell)
    return None


def plain_order(many):
    """Return the order of so many cells, ascending, that reads each cell alone."""
    return tuple([(cell,) for cell in range(many)])
