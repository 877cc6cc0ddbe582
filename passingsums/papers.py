"""What papers are made of: fractions in least terms, and rows of them that fall from 1 to 0."""

from math import gcd

from passingsums.books import is_number, is_tuple_of


def is_alike(value, wanted):
    """Return whether value equals wanted, which is made of tuples, strings and integers; True is not 1 here."""
    if isinstance(wanted, tuple):
        return is_tuple_of(value, len(wanted)) and all([is_alike(item, other) for item, other in zip(value, wanted)])
    return not isinstance(value, bool) and value == wanted


def fraction(above, below):
    """Return above divided by below, which is not 0, as a fraction in least terms."""
    common = gcd(above, below)
    if below < 0:
        common = -common
    return (above // common, below // common)


def is_row_of_parts(value, length):
    """Return whether value is a tuple of so many fractions in least terms, from 1 to 0, that never rise."""
    return is_tuple_of(value, length) and all([_is_fraction(part) for part in value]) and _falls(value)


def _is_fraction(value):
    """Return whether value is a fraction in least terms."""
    if not is_tuple_of(value, 2):
        return False
    above, below = value
    return is_number(above) and is_number(below) and below > 0 and gcd(above, below) == 1


def _falls(parts):
    """Return whether these fractions go from 1 to 0, and none is greater than the one ahead of it."""
    steps = [
        later[0] * ahead[1] <= ahead[0] * later[1]
        for ahead, later in zip(parts, parts[1:])
    ]
    return parts[0] == (1, 1) and parts[-1] == (0, 1) and all(steps)


def is_seen_by(parts, row):
    """Return whether the numbers of row are, place by place, these parts of its first one."""
    return all([number * below == above * row[0] for number, (above, below) in zip(row, parts)])


def one_row(rows):
    """Return the row of parts by which all rows are seen, None if there is none.

    One of the rows, at least, does not begin with 0, and each one ends with 0.
    """
    changing = [row for row in rows if row[0] != 0]
    parts = tuple([fraction(number, changing[0][0]) for number in changing[0]])
    if _falls(parts) and all([is_seen_by(parts, row) for row in rows]):
        return parts
    return None
