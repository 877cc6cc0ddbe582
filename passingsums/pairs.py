"""Two sums that are read together: the points read and met, their hull, and papers that it is never left."""

from math import gcd

from passingsums.books import is_tuple_of
from passingsums.errors import Breaks
from passingsums.papers import is_alike, is_row_of_parts, is_seen_by, one_row
from passingsums.shares import is_part, shares_of
from passingsums.weavings import read_of, run_pairs, totals_between, weaving_error


def point_shares(book, order, weights, deed):
    """Return the tuple of the points that are seen of the deed at each stand."""
    first, second = [shares_of(_weighed_book(book, row), order, deed) for row in weights]
    return tuple(zip(first, second))


def point_read(book, order, weights, begin, weaving):
    """Return the point that is read."""
    return tuple([read_of(_weighed_book(book, row), order, _weighed(begin, row), weaving) for row in weights])


def points_met(book, order, weights, begin, weaving):
    """Return the tuple of the begin's point and the points behind each run."""
    first, second = [totals_between(_weighed_book(book, row), _weighed(begin, row), weaving) for row in weights]
    return tuple(zip(first, second))


def _weighed_book(book, weights):
    """Return the book whose totals are the one sum of book that has this row of weights."""
    many, rows = book
    return (many, tuple([_weighed(row, weights) for row in rows]))


def _weighed(items, weights):
    """Return the tuple of items, each multiplied by its weight."""
    return tuple([item * weight for item, weight in zip(items, weights)])


def in_hull(points, point):
    """Return whether point is in the hull of points."""
    ways = [(first - point[0], second - point[1]) for first, second in points]
    # A line parts the point from all points exactly if, seen from it, they fill less than half a turn.
    return not any([all([_is_to_left(way, other) for other in ways]) for way in ways])


def _is_to_left(first, second):
    """Return whether second lies ahead of first, or to its left by less than half a turn."""
    turn = _turn(first, second)
    return turn > 0 or (turn == 0 and _along(first, second) > 0)


def _turn(first, second):
    """Return a number above 0 if second lies to the left of first, below 0 if to the right, 0 if on its line."""
    return first[0] * second[1] - first[1] * second[0]


def _along(first, second):
    """Return a number above 0 if second goes forward along first, below 0 if backward."""
    return first[0] * second[0] + first[1] * second[1]


def hull_paper(book, order, weights):
    """Return a paper that no weaving breaks the hull, of one ray ahead of one row; raise Breaks(weaving) if none is."""
    shares = _all_point_shares(book, order, weights)
    if _odd_place(shares) is None:
        ray = _ray_of(shares)
        if ray is not None:
            return ("one ray", ray)
        parts = one_row(_single_rows(shares))
        if parts is not None:
            return ("one row", parts)
    raise Breaks(_breaking_weaving(shares, len(order)))


def hull_holds(book, order, weights, value):
    """Return whether value is a paper, of either kind, that no weaving breaks the hull."""
    if not is_tuple_of(value, 2):
        return False
    shares = _all_point_shares(book, order, weights)
    word, told = value
    if word == "one ray":
        ray = _ray_of(shares)
        return ray is not None and is_alike(told, ray) and _odd_place(shares) is None
    if word != "one row" or not is_row_of_parts(told, len(order) + 1):
        return False
    return all([is_seen_by(told, row) for row in _single_rows(shares)])


def breaks_hull(book, order, weights, value):
    """Return whether value is a weaving by which the point read is not in the hull of the points met."""
    if weaving_error(book, order, value) is not None:
        return False
    many, _ = book
    begin = (0,) * many
    met = points_met(book, order, weights, begin, value)
    return not in_hull(met, point_read(book, order, weights, begin, value))


def _all_point_shares(book, order, weights):
    """Return the list of the points seen of all deeds, a row for each deed."""
    _, rows = book
    return [point_shares(book, order, weights, deed) for deed in range(len(rows))]


def _single_rows(shares):
    """Return the list of the first items, and of the second ones, of each row of points."""
    return [[point[place] for point in row] for row in shares for place in range(2)]


def _odd_place(shares):
    """Return a pair of stand and deed at which what is seen is no part of the deed's point, None if there is none."""
    for deed, row in enumerate(shares):
        for stand, seen in enumerate(row):
            if not _is_part_of(seen, row[0]):
                return (stand, deed)
    return None


def _is_part_of(seen, whole):
    """Return whether the point seen lies on the way from (0, 0) to the point whole, both let."""
    return _turn(seen, whole) == 0 and is_part(seen[0], whole[0]) and is_part(seen[1], whole[1])


def _ray_of(shares):
    """Return the least point of the ray on which all deeds' points lie, None if they are on none."""
    wholes = [row[0] for row in shares if row[0] != (0, 0)]
    if len(wholes) == 0:
        return (0, 0)
    size = _size(wholes[0])
    ray = (wholes[0][0] // size, wholes[0][1] // size)
    return ray if all([_is_on_ray(ray, whole) for whole in wholes]) else None


def _size(point):
    """Return of which multiple of a point with whole items this point, not (0, 0), is the greatest one."""
    first, second = point
    return gcd(first, second)


def _is_on_ray(first, second):
    """Return whether two points lie on one ray, and neither of them is (0, 0)."""
    return _turn(first, second) == 0 and _along(first, second) > 0


def _breaking_weaving(shares, blocks):
    """Return a weaving that breaks the hull, if there is no paper."""
    odd = _odd_place(shares)
    if odd is not None:
        stand, deed = odd
        return ((stand, deed, 1),)
    found = [pair for pair in run_pairs(blocks, len(shares)) if _leads_out(shares, pair)]
    (stand, first), (later, second) = found[0]
    times = _balanced(shares[first][0], shares[second][0])
    return ((stand, first, times[0]), (later, second, times[1]))


def _leads_out(shares, pair):
    """Return whether two deeds can lead out of the hull: if a greater part is seen of the one done last.

    They never do if their points lie on one ray, or one of them is (0, 0): that has no part.
    """
    (stand, first), (later, second) = pair
    if _is_on_ray(shares[first][0], shares[second][0]):
        return False
    above, below = _part_at(shares[first], stand)
    later_above, later_below = _part_at(shares[second], later)
    return above * later_below < later_above * below


def _part_at(row, stand):
    """Return which part of its point is seen of a deed at the stand, as a pair (above, below)."""
    return (_along(row[stand], row[0]), _along(row[0], row[0]))


def _balanced(first, second):
    """Return how many times each of two deeds is done, so that points on one line, but not on one ray, even out."""
    size, later_size = _size(first), _size(second)
    common = gcd(size, later_size)
    return (later_size // common, size // common)
