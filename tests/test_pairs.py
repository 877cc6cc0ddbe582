import unittest
from fractions import Fraction
from itertools import combinations, product
from math import gcd
from random import Random
from time import process_time

from passingsums.between import between_paper
from passingsums.books import plain_order
from passingsums.errors import Breaks
from passingsums.pairs import breaks_hull, hull_holds, hull_paper, in_hull, point_read, point_shares, points_met
from passingsums.weavings import weaving_error
from samples import (
    all_weavings, books_of_kinds, changed_values, check_breaks, check_calls, handed_over, odd_values, orders_of,
    random_book, random_order, random_weaving, shown,
)

TWO, HALVES, ALL = ((0,), (1,)), ((0, 1), (2, 3)), ((0, 1, 2, 3),)
POTS, BOTH = (4, ((9, 1, 0, 0), (0, 0, 1, 1))), ((1, 0, 1, 0), (0, 1, 0, 1))
LATE = ((1, 0, 1), (1, 1, 1))
SLOPE, SLOPES = (2, ((1, 1), (-2, -2))), ((1, 1), (2, 2))
CORNER = ((0, 0), (4, 0), (0, 4))
MOST = 10 ** 6


def point_of(cells, weights):
    return tuple(sum(item * weight for item, weight in zip(cells, row)) for row in weights)


def told_points(book, order, weights, deed):
    """Return what is seen of the deed at each stand: the point of its row with 0 in all cells that are read."""
    found = []
    for stand in range(len(order) + 1):
        unread = [cell for block in order[stand:] for cell in block]
        found.append(point_of([item if cell in unread else 0 for cell, item in enumerate(book[1][deed])], weights))
    return tuple(found)


def strode_points(book, order, weights, begin, weaving):
    """Go through order cell by cell, and do each run at once; return the point read and the points between."""
    cells, read, points = list(begin), [0] * book[0], [point_of(begin, weights)]
    for stand, block in enumerate(order):
        for at, deed, times in weaving:
            if at == stand:
                cells = [held + times * item for held, item in zip(cells, book[1][deed])]
                points.append(point_of(cells, weights))
        for cell in block:
            read[cell] = cells[cell]
    return point_of(read, weights), tuple(points)


def turn(first, second, third):
    """Return on which side of the way from first to second the third point lies: 0 if on its line."""
    return (second[0] - first[0]) * (third[1] - first[1]) - (second[1] - first[1]) * (third[0] - first[0])


def is_amid(first, second, point):
    """Tell whether point is on the way from first to second, both let."""
    inner = all(min(ends) <= item <= max(ends) for *ends, item in zip(first, second, point))
    return inner and turn(first, second, point) == 0


def is_in_a_triangle(points, point):
    """Tell whether point is in the hull of points in another way: if it is in that of some three of them."""
    if any(is_amid(first, second, point) for first, second in product(points, repeat=2)):
        return True
    for first, second, third in combinations(points, 3):
        turns = [turn(first, second, point), turn(second, third, point), turn(third, first, point)]
        if turn(first, second, third) and (min(turns) >= 0 or max(turns) <= 0):
            return True
    return False


def is_inside_a_ring(points, point):
    """Tell whether point is in the hull of points in a third way: by going around the hull's corners."""
    ring = []
    for way in (sorted(set(points)), sorted(set(points), reverse=True)):
        half = []
        for corner in way:
            while len(half) > 1 and turn(half[-2], half[-1], corner) <= 0:
                half.pop()
            half.append(corner)
        ring += half[:-1]
    if len(ring) < 3:
        return is_amid(min(points), max(points), point)
    return all(turn(first, second, point) >= 0 for first, second in zip(ring, ring[1:] + ring[:1]))


def told_papers(book, order, weights):
    """Tell the ray and the row of parts of the papers in another way; None where there is none, "any" for each row."""
    parts, rays = [], set()
    for deed in range(len(book[1])):
        seen = told_points(book, order, weights, deed)
        x, y = seen[0]
        if (x, y) == (0, 0):
            if any(point != (0, 0) for point in seen):
                return None, None
            continue
        told = [Fraction(point[0], x) if x else Fraction(point[1], y) for point in seen]
        for part, point in zip(told, seen):
            if not 0 <= part <= 1 or point != (part * x, part * y):
                return None, None
        parts.append(tuple((part.numerator, part.denominator) for part in told))
        rays.add((x // gcd(x, y), y // gcd(x, y)))
        falls = told == sorted(told, reverse=True)
    ray = (rays or {(0, 0)}).pop() if len(rays) < 2 else None
    if not parts:
        return ray, "any"
    return ray, parts[0] if len(set(parts)) == 1 and falls else None


def random_weights(random, many):
    """Return weights of any kind: noughts, ones and noughts, multiples of one another, below 0."""
    rows = []
    for _ in range(2):
        low, high = random.choice(((0, 0), (1, 1), (0, 1), (0, 1), (-1, 1), (-99, 99), (-3, 9)))
        rows.append(tuple(random.randint(low, high) for _ in range(many)))
    if random.random() < 0.2:
        rows[1] = tuple(-item for item in rows[0])
    return tuple(rows)


class Examples(unittest.TestCase):
    """The examples of the document, as they stand there."""

    def test_shares(self):
        named = {"book": POTS, "order": HALVES, "weights": BOTH}
        check_calls(self, ((9, 1), (0, 0), (0, 0)), point_shares, **named, deed=0)
        check_calls(self, ((1, 1), (1, 1), (0, 0)), point_shares, **named, deed=1)
        named["order"] = ((2,), (0, 1), (3,))
        check_calls(self, ((1, 1), (0, 1), (0, 1), (0, 0)), point_shares, **named, deed=1)

    def test_read_and_met(self):
        named = {"book": POTS, "order": HALVES, "weights": BOTH}
        check_calls(self, (9, 3), point_read, **named, begin=(4, 1, 4, 1), weaving=LATE)
        check_calls(self, ((8, 2), (17, 3), (18, 4)), points_met, **named, begin=(4, 1, 4, 1), weaving=LATE)
        check_calls(self, ((0, 0), (MOST, MOST)), points_met, **named, begin=(0, 0, 0, 0), weaving=((1, 1, MOST),))
        named["order"] = ALL
        check_calls(self, (8, 2), point_read, **named, begin=(4, 1, 4, 1), weaving=())

    def test_hull(self):
        for wanted, point in ((True, (1, 1)), (True, (2, 2)), (False, (3, 2)), (True, (0, 4)), (False, (-1, 0))):
            check_calls(self, wanted, in_hull, points=CORNER, point=point)
        check_calls(self, True, in_hull, points=((1, 2),), point=(1, 2))
        check_calls(self, True, in_hull, points=((0, 0), (4, 2), (0, 0)), point=(2, 1))
        check_calls(self, False, in_hull, points=((0, 0), (4, 2)), point=(2, 2))
        check_calls(self, False, in_hull, points=((0, 0), (4, 2)), point=(6, 3))
        check_calls(self, False, in_hull, points=((8, 2), (17, 3), (18, 4)), point=(9, 3))

    def test_breaks(self):
        for wanted, value in ((True, LATE), (False, LATE[::-1]), (False, LATE[:1]), (False, [LATE[0]])):
            check_calls(self, wanted, breaks_hull, book=POTS, order=HALVES, weights=BOTH, value=value)

    def test_papers(self):
        for wanted, book, order, weights in (
            (("one row", ((1, 1), (0, 1))), POTS, ALL, BOTH),
            (("one ray", (5, 1)), (4, ((5, 1, 0, 0), (0, 0, 10, 2))), HALVES, BOTH),
            (("one row", ((1, 1), (0, 1), (0, 1))), (4, ((9, 1, 0, 0), (-9, -1, 0, 0))), HALVES, BOTH),
            (("one row", ((1, 1), (1, 2), (0, 1))), SLOPE, TWO, SLOPES),
            (("one ray", (0, 0)), (2, ((0, 0),)), TWO, SLOPES),
            (("one ray", (0, 0)), (2, ()), ((1,), (0,)), ((1, 1), (0, 0))),
            (("one ray", (9, 1)), (4, ((9, 1, 0, 0),)), HALVES, BOTH),
        ):
            check_calls(self, wanted, hull_paper, book=book, order=order, weights=weights)

    def test_holds(self):
        row = ("one row", ((1, 1), (1, 2), (0, 1)))
        others = ("one row", ((1, 1), (2, 4), (0, 1))), ("one ray", (1, 2)), ("one row", [(1, 1), (1, 2), (0, 1)])
        check_calls(self, True, hull_holds, book=SLOPE, order=TWO, weights=SLOPES, value=row)
        for value in others:
            check_calls(self, False, hull_holds, book=SLOPE, order=TWO, weights=SLOPES, value=value)
        row, book = ("one row", ((1, 1), (0, 1), (0, 1))), (4, ((9, 1, 0, 0),))
        check_calls(self, True, hull_holds, book=book, order=HALVES, weights=BOTH, value=row)

    def test_the_text_around(self):
        check_breaks(self, hull_paper, book=POTS, order=HALVES, weights=BOTH)
        self.assertEqual(turn((8, 2), (18, 4), (13, 3)), 0)
        self.assertLess(turn((8, 2), (18, 4), (17, 3)) * turn((8, 2), (18, 4), (9, 3)), 0)
        self.assertEqual(
            strode_points(POTS, HALVES, BOTH, (0, 0, 0, 0), LATE[::-1]), ((1, 1), ((0, 0), (1, 1), (10, 2))))
        self.assertIsNone(weaving_error(POTS, ALL, ()))
        self.assertIsNotNone(weaving_error(POTS, ALL, LATE))


class Points(unittest.TestCase):
    def check(self, book, order, weights, begin, weaving):
        named = {"book": book, "order": order, "weights": weights}
        for deed in range(len(book[1])):
            check_calls(self, told_points(book, order, weights, deed), point_shares, **named, deed=deed)
        read, met = strode_points(book, order, weights, begin, weaving)
        check_calls(self, read, point_read, **named, begin=begin, weaving=weaving)
        check_calls(self, met, points_met, **named, begin=begin, weaving=weaving)

    def test_random_weavings(self):
        random = Random(71)
        for times in (1, 9, MOST):
            for _ in range(80):
                many = random.randint(1, 8)
                book, order = random_book(random, many, random.randint(0, 8), 99), random_order(random, many)
                weaving = random_weaving(random, book, order, random.choice((3, 100)), times)
                begin = tuple(random.choice((0, -10 ** 9, 10 ** 9, random.randint(-99, 99))) for _ in range(many))
                self.check(book, order, random_weights(random, many), begin, weaving)

    def test_the_greatest_numbers(self):
        for sign in (1, -1):
            book, weights = (8, ((99,) * 8, (-99,) * 8)), ((99 * sign,) * 8, (-99 * sign,) * 8)
            for begin in ((10 ** 9,) * 8, (-10 ** 9,) * 8):
                self.check(book, plain_order(8), weights, begin, ((1, 0, MOST),) * 100)
                self.check(book, plain_order(8), weights, begin, ((4, 0, MOST),) * 50 + ((7, 1, MOST),) * 50)

    def test_one_block_and_no_rows(self):
        random = Random(72)
        for many in range(1, 9):
            whole, weights = (tuple(range(many)),), random_weights(random, many)
            begin = tuple(random.randint(-9, 9) for _ in range(many))
            self.check(random_book(random, many, 8, 99), whole, weights, begin, ())
            self.check((many, ()), plain_order(many), weights, begin, ())


class InHull(unittest.TestCase):
    def check(self, wanted, points, *others):
        for point in others:
            self.assertIs(is_inside_a_ring(points, point), wanted, (points, point))
            check_calls(self, wanted, in_hull, points=points, point=point)

    def test_all_small_lots(self):
        random = Random(73)
        grid = list(product(range(-2, 3), repeat=2))
        for size in (1, 2, 3, 4, 5):
            for _ in range(40):
                points = tuple(random.choice(grid) for _ in range(size))
                for point in grid:
                    self.check(is_in_a_triangle(points, point), points, point)

    def test_all_lots_of_three_around_a_point(self):
        grid = list(product(range(-1, 2), repeat=2))
        for points in product(grid, repeat=3):
            wanted = is_in_a_triangle(points, (0, 0))
            self.assertIs(in_hull(points, (0, 0)), wanted, points)
            self.assertIs(in_hull(tuple((5 * x, 5 * y) for x, y in points), (0, 0)), wanted, points)

    def test_one_point_and_equal_points(self):
        for point in ((0, 0), (3, -2), (10 ** 300, -10 ** 300)):
            for points in ((point,), (point,) * 2, (point,) * 101):
                self.check(True, points, point)
                x, y = point
                self.check(False, points, (x + 1, y), (x - 1, y), (x, y + 1), (x, y - 1), (-x - 1, -y), (y, x + 1))

    def test_points_on_one_line(self):
        for x, y in ((1, 0), (0, 1), (1, 1), (2, -3), (-4, -6)):
            points = tuple((1 + x * times, 7 + y * times) for times in (2, -3, 5, 0, 0, 5))
            self.check(True, points, *[(1 + x * times, 7 + y * times) for times in range(-3, 6)])
            self.check(False, points, *[(1 + x * times, 7 + y * times) for times in (-9, -4, 6, 99)])
            self.check(False, points, (1 + x - y, 7 + y + x), (1 - x + y, 7 - y - x), (1 + 5 * x, 8 + 5 * y + abs(x)))

    def test_corners_edges_inside_and_just_outside(self):
        square = ((0, 0), (10, 0), (10, 10), (0, 10))
        for points in (square, square[::-1], square + ((5, 5),), square * 25):
            self.check(True, points, *square, (5, 0), (10, 5), (5, 10), (0, 5), (1, 0), (0, 9), (5, 5), (1, 9))
            self.check(False, points, (-1, 0), (0, -1), (11, 0), (5, -1), (5, 11), (11, 5), (-1, 5), (11, 11), (-1, -1))

    def test_just_beside_a_long_edge(self):
        far = 10 ** 9
        points = ((0, 0), (far, far + 1), (far, 0))
        self.check(True, points, (far // 2, far // 2), (1, 1), (far - 1, far - 1), (far, far), (far, far + 1))
        self.check(False, points, (1, 2), (far // 2, far // 2 + 1), (far - 1, far), (far, far + 2), (far + 1, far + 1))
        self.check(False, ((0, 0), (far, far + 1)), (1, 1), (far - 1, far))

    def test_many_points(self):
        random = Random(74)
        for bound in (3, 20, 1000, 10 ** 12):
            for size in (10, 100, 101):
                points = tuple((random.randint(-bound, bound), random.randint(-bound, bound)) for _ in range(size))
                for _ in range(6):
                    (a, b), (c, d) = random.choice(points), random.choice(points)
                    for point in ((a, b), ((a + c) // 2, (b + d) // 2), (a + 1, b), (a, b - 1), (a + b, c - d)):
                        self.check(is_inside_a_ring(points, point), points, point)

    def test_points_on_a_bow(self):
        # Each point is a corner; so the middle between two neighbours is in the hull, and one step beyond is not.
        points = tuple((x, x * x) for x in range(-100, 102, 2))
        self.assertEqual(len(points), 101)
        self.check(True, points, *points[::10], *[(x, x * x + 1) for x in range(-99, 101, 20)], (0, 10000), (-99, 9802))
        self.check(False, points, *[(x, x * x) for x in range(-99, 101, 20)], (0, -1), (0, 10001), (101, 10201))

    def test_as_often_as_it_is_asked(self):
        started = process_time()
        points = tuple((x, x * x * x) for x in range(-50, 51))
        for _ in range(20):
            in_hull(points, (0, 1))
        self.assertLess(process_time() - started, 4)


class Papers(unittest.TestCase):
    def check(self, book, order, weights):
        """Check the paper against the rules told a second time; where there is none, the weaving breaks the hull."""
        named, (ray, row) = {"book": book, "order": order, "weights": weights}, told_papers(book, order, weights)
        if ray is None and row is None:
            self.check_no_paper(**named)
        elif ray is not None:
            check_calls(self, ("one ray", ray), hull_paper, **named)
            check_calls(self, True, hull_holds, **named, value=("one ray", ray))
        else:
            check_calls(self, ("one row", row), hull_paper, **named)
            for value in (("one ray", (0, 0)), ("one ray", told_points(book, order, weights, 0)[0])):
                self.assertIs(hull_holds(**named, value=value), False)
        if row is not None:
            likely = row if row != "any" else ((1, 1),) + ((1, 3),) * (len(order) - 1) + ((0, 1),)
            check_calls(self, True, hull_holds, **named, value=("one row", likely))
        else:
            for told in (((1, 1),) * len(order) + ((0, 1),), ((1, 1),) + ((0, 1),) * len(order)):
                self.assertIs(hull_holds(**named, value=("one row", told)), False)
        return ray, row

    def check_no_paper(self, book, order, weights):
        named = {"book": book, "order": order, "weights": weights}
        weaving = check_breaks(self, hull_paper, **named)
        self.assertIsNone(weaving_error(book, order, weaving), (named, weaving))
        for begin in ((0,) * book[0], tuple(range(book[0])), (-10 ** 9,) * book[0]):
            read, met = strode_points(book, order, weights, begin, weaving)
            self.assertFalse(is_inside_a_ring(met, read), (named, weaving))
            self.assertFalse(is_in_a_triangle(met, read), (named, weaving))
        self.assertIs(breaks_hull(**named, value=weaving), True)
        for value in (("one ray", (0, 0)), ("one ray", told_points(book, order, weights, 0)[0])):
            self.assertIs(hull_holds(**named, value=value), False)

    def test_books_and_weights_of_all_kinds(self):
        random, found = Random(75), []
        for many in range(1, 9):
            for order in (plain_order(many), (tuple(range(many)),), *[random_order(random, many) for _ in range(4)]):
                for book in books_of_kinds(random, order, random.randint(2, 8)) + likely_books(random, order):
                    ray, row = self.check(book, order, random_weights(random, many))
                    found.append((ray is not None, row is not None))
        for kind in product((True, False), repeat=2):
            self.assertGreater(found.count(kind), 20, kind)

    def test_the_sum_and_the_number(self):
        # The weights that the document is about: each pot has a sum, and how many it is of.
        random = Random(76)
        for _ in range(150):
            pots = random.randint(1, 4)
            weights = (1, 0) * pots, (0, 1) * pots
            order = tuple((2 * pot, 2 * pot + 1) for pot in random.sample(range(pots), pots))
            for book in likely_books(random, order)[:4]:
                self.check(book, order, weights)

    def test_small_books_break_exactly_if_a_weaving_of_few_deeds_breaks_them(self):
        rows = list(product((-1, 0, 1), repeat=2))
        weavings = list(all_weavings(2, 2, 5))
        for weights in (((1, 0), (0, 1)), ((1, 1), (0, 1)), ((1, 1), (0, 0)), ((1, -1), (-1, 1))):
            for book in combinations(rows, 2):
                papers = self.check((2, book), TWO, weights)
                found = False
                for weaving in weavings:
                    read, met = strode_points((2, book), TWO, weights, (0, 0), weaving)
                    found = found or not is_inside_a_ring(met, read)
                self.assertEqual(papers == (None, None), found, (book, weights))

    def test_three_cells_and_few_deeds(self):
        random = Random(77)
        kinds = ((1, 0, 1), (0, 1, 0)), ((1, 1, 0), (0, 1, 1))
        for order in orders_of((0, 1, 2)):
            weavings = list(all_weavings(len(order), 2, 4))
            for _ in range(6):
                book, weights = random_book(random, 3, 2, 1), random.choice(kinds)
                papers = self.check(book, order, weights)
                found = any(breaks_hull(book, order, weights, weaving) for weaving in weavings)
                self.assertEqual(papers == (None, None), found, (book, order, weights))

    def test_the_part_of_one_deed_alone(self):
        weights = ((1, 0), (0, 1))
        for row in product((-2, -1, 0, 1, 2), repeat=2):
            self.check((2, (row,)), TWO, weights)
            self.check((2, (row,)), TWO, ((1, 2), (2, 4)))
            self.check((2, (row,)), TWO, ((0, 0), (1, 3)))
        # What is seen is longer than the whole, or goes the other way, or off the line.
        self.check_no_paper((2, ((-1, 2),)), TWO, SLOPES)
        self.check_no_paper((2, ((2, -1),)), TWO, SLOPES)
        self.check_no_paper((2, ((1, 1),)), TWO, weights)
        self.check_no_paper((2, ((1, -1),)), TWO, SLOPES)

    def test_points_off_one_line(self):
        # By the order one part is seen of all; off it, each of two directions has its own.
        order, weights = ((0, 1), (2, 3)), ((1, 0, 1, 0), (0, 1, 0, 1))
        rows = ((1, 0, 2, 0), (0, 2, 0, 4), (3, 3, 6, 6), (-5, 1, -10, 2))
        self.assertEqual(self.check((4, rows), order, weights), (None, ((1, 1), (2, 3), (0, 1))))
        for at in range(4):
            for cell in range(4):
                off = rows[at][:cell] + (rows[at][cell] + 1,) + rows[at][cell + 1:]
                self.assertEqual(self.check((4, rows[:at] + (off,) + rows[at + 1:]), order, weights), (None, None))

    def test_parts_that_rise(self):
        # The parts 1, 1/4, 1/2, 0: right along one ray, but neither with another ray nor with the way back.
        pots = tuple((2 * pot, 2 * pot + 1) for pot in range(3))
        weights = (1, 0) * 3, (0, 1) * 3
        rows = ((3, 0, -1, 0, 2, 0), (0, 3, 0, -1, 0, 2), (-6, 0, 2, 0, -4, 0), (6, 0, -2, 0, 4, 0))
        self.assertEqual(self.check((6, rows[:1] + rows[3:]), pots, weights), ((1, 0), None))
        for lot in ((0, 1), (1, 0), (0, 2), (2, 0), (0, 3, 1), (3, 0, 2)):
            self.assertEqual(self.check((6, tuple(rows[at] for at in lot)), pots, weights), (None, None))
        turned = pots[::-1]
        self.assertEqual(self.check((6, rows), turned, weights), (None, None))

    def test_any_parts_along_few_lines(self):
        random, found = Random(85), []
        for _ in range(600):
            pots, rows = random.randint(2, 4), []
            for _ in range(random.randint(1, 4)):
                x, y = random.choice(((1, 0), (1, 0), (-1, 0), (-2, 0), (0, 1)))
                shares = [2] + [random.randint(0, 2) for _ in range(pots - 1)] + [0]
                pairs = [(x * (now - then), y * (now - then)) for now, then in zip(shares, shares[1:])]
                rows.append(tuple(item for pair in pairs for item in pair))
            order = tuple((2 * pot, 2 * pot + 1) for pot in range(pots))
            found.append(self.check((2 * pots, tuple(rows)), order, ((1, 0) * pots, (0, 1) * pots)))
        self.assertGreater(min(found.count((None, None)), len(found) - found.count((None, None))), 100)

    def test_opposite_points_of_unlike_lengths(self):
        # Balanced out, they can take many deeds: of the one 98, of the other one 99 parts.
        for first, second in ((99, 98), (99, 1), (6, 4), (1, 1), (97, 89)):
            for weights in (((1,) * 4, (0,) * 4), ((99,) * 4, (-99,) * 4), ((2,) * 4, (3,) * 4)):
                self.check((4, ((first, 0, 0, 0), (0, -second, 0, 0))), plain_order(4), weights)
                self.check((4, ((0, -second, 0, 0), (first, 0, 0, 0))), plain_order(4), weights)
                self.check((4, ((first,) * 4, (-second,) * 3 + (1 - second,))), HALVES, weights)
                self.check((4, ((first,) * 4, (-second,) * 4)), HALVES, weights)

    def test_the_greatest_items_and_weights(self):
        whole, less = (99,) * 8, (-99,) * 7 + (-98,)
        for weights in (((99,) * 8, (-99,) * 8), ((99,) * 8, (98,) * 8), ((-99,) * 8, (0,) * 8)):
            for order in (plain_order(8), (tuple(range(4)), tuple(range(4, 8)))):
                self.check((8, (whole, less)), order, weights)
                self.check((8, (less, whole)), order, weights)
                self.check((8, (whole, tuple(-item for item in whole))), order, weights)

    def test_ones_and_noughts_beside_between(self):
        random = Random(78)
        for _ in range(60):
            many = random.randint(1, 8)
            order, weights = random_order(random, many), ((1,) * many, (0,) * many)
            for book in books_of_kinds(random, order, random.randint(2, 8)):
                try:
                    word, told = between_paper(book, order)
                except Breaks:
                    self.assertEqual(self.check(book, order, weights), (None, None))
                    continue
                paper = ("one ray", (told, 0)) if word == "one sign" else (word, told)
                self.assertEqual(hull_paper(book, order, weights), paper)
                self.check(book, order, weights)

    def test_noughts_as_weights(self):
        random = Random(79)
        for many in range(1, 9):
            book = random_book(random, many, 8, 99)
            self.assertEqual(self.check(book, random_order(random, many), ((0,) * many,) * 2), ((0, 0), "any"))

    def test_one_block_always_has_a_paper(self):
        random = Random(80)
        for many in range(1, 9):
            for _ in range(6):
                book = random_book(random, many, random.randint(0, 8), 99)
                self.assertIsNotNone(self.check(book, (tuple(range(many)),), random_weights(random, many))[1])

    def test_deeds_left_out(self):
        random = Random(81)
        for _ in range(40):
            order = random_order(random, random.randint(1, 6))
            for book in likely_books(random, order):
                weights = random_weights(random, book[0])
                if told_papers(book, order, weights) != (None, None):
                    for deed in range(len(book[1])):
                        hull_paper((book[0], book[1][:deed] + book[1][deed + 1:]), order, weights)


def likely_books(random, order):
    """Return books that tend to have papers: deeds that go to all blocks alike, or each one along one row."""
    many, found = sum(len(block) for block in order), []
    for _ in range(5):
        base = [tuple(random.randint(0, 9) for _ in range(many)) for _ in range(random.choice((1, 1, 2)))]
        rows = []
        for _ in range(random.randint(0, 8)):
            factor = random.choice((-9, -2, -1, 0, 1, 2, 9))
            rows.append(tuple(factor * item for item in random.choice(base)))
        rows += [handed_over(random, order, 1)] if random.random() < 0.1 else []
        sign = random.choice((1, -1, 0))
        rows = [tuple(sign * abs(item) if sign else item for item in row) for row in rows]
        found.append((many, tuple(rows[:8])))
    place, rows = random.choice(order), []
    for _ in range(random.randint(1, 8)):
        rows.append(tuple(random.randint(-99, 99) if cell in place else 0 for cell in range(many)))
    return found + [(many, tuple(rows))]


class HullHolds(unittest.TestCase):
    def check(self, wanted, book, order, weights, *values):
        for value in values:
            check_calls(self, wanted, hull_holds, book=book, order=order, weights=weights, value=value)

    def test_the_paper_with_one_thing_changed(self):
        for book, order, weights in (
            (SLOPE, TWO, SLOPES), (POTS, ALL, BOTH), ((4, ((5, 1, 0, 0), (0, 0, 10, 2))), HALVES, BOTH),
            ((4, ((9, 1, 0, 0), (-9, -1, 0, 0))), HALVES, BOTH), ((4, ((1, 1, 0, 0),)), HALVES, BOTH),
            ((4, ((0, 1, 0, 3), (0, 2, 0, 6))), plain_order(4), BOTH),
            ((4, ((-1, 0, -3, 0), (-1, 0, -3, 0))), ((0,), (2, 3), (1,)), BOTH),
        ):
            ray, row = told_papers(book, order, weights)
            papers = [("one ray", ray)] * (ray is not None) + [("one row", row)] * (row is not None)
            self.assertNotEqual(papers, [])
            for paper in papers:
                self.check(True, book, order, weights, paper)
                for value in changed_values(paper):
                    self.check(False, book, order, weights, value)

    def test_each_row_of_parts_of_a_book_that_changes_nothing(self):
        order, weights = ((0,), (1,), (2,)), ((1, 2, 3), (1, 1, 1))
        for book in ((3, ()), (3, ((0, 0, 0),) * 8)):
            self.check(True, book, order, weights, ("one ray", (0, 0)))
            self.check(False, book, order, weights, ("one ray", (1, 0)), ("one ray", (False, 0)), ("one ray", [0, 0]))
            for first, second in product(((0, 1), (1, 3), (1, 2), (2, 3), (1, 1)), repeat=2):
                wanted = first[0] * second[1] >= second[0] * first[1]
                self.check(wanted, book, order, weights, ("one row", ((1, 1), first, second, (0, 1))))
            far = 10 ** 300
            self.check(True, book, order, weights, ("one row", ((1, 1), (far, far + 1), (far - 1, far), (0, 1))))
            self.check(False, book, order, weights, ("one row", ((1, 1), (far - 1, far), (far, far + 1), (0, 1))))

    def test_rows_that_are_no_rows_of_parts(self):
        order, weights = ((0,), (1,), (2,)), ((1, 2, 3), (1, 1, 1))
        good = ((1, 1), (1, 2), (1, 2), (0, 1))
        rows = [
            good[1:], good[:-1], good[:1] + good, good + good[-1:], good[::-1], list(good), (), None, 1, "1",
            ((1, 1), (1, 2), (2, 4), (0, 1)), ((1, 1), (2, 4), (1, 2), (0, 1)), ((2, 2),) + good[1:],
            ((-1, -1),) + good[1:], good[:3] + ((0, -1),), good[:3] + ((0, 2),),
            ((1, 1), (-1, -2), (1, 2), (0, 1)), ((1, 1), (3, 2), (1, 2), (0, 1)),
            ((1, 1), (1, 2), (-1, 2), (0, 1)), ((1, 1), (1, 2), (0, 0), (0, 1)), ((1, 1), (1, 0), (1, 2), (0, 1)),
            ((1, 1), (0, 1), (1, 2), (0, 1)), ((1, 2),) + good[1:], good[:3] + ((1, 3),), ((0, 0),) * 4,
            ((1, 1), (1, 2, 1), (1, 2), (0, 1)), ((1, 1), (1,), (1, 2), (0, 1)), ((1, 1), [1, 2], (1, 2), (0, 1)),
            ((1, 1), None, (1, 2), (0, 1)), ((1, 1), (1, "2"), (1, 2), (0, 1)), ((1, 1), (1, None), (1, 2), (0, 1)),
            ((True, 1),) + good[1:], ((1, True),) + good[1:], good[:3] + ((False, 1),), good[:3] + ((0, True),),
            ((1, 1), (True, 2), (1, 2), (0, 1)), ((1, 1), (1, 1), (True, 2), (0, 1)),
            ((1, 1), ((1, 2),), (1, 2), (0, 1)), ((1, 1), (-1, 0), (1, 0), (0, 1)), ((1, 1), (-1, 0), (0, 1), (0, 1)),
        ]
        for book in ((3, ()), (3, ((0, 0, 0),))):
            self.check(True, book, order, weights, ("one row", good))
            self.check(False, book, order, weights, *[("one row", row) for row in rows], *rows)

    def test_rays(self):
        book = (2, ((2, 0), (4, 0), (0, 0)))
        for weights, ray in ((((3, 3), (0, 0)), (1, 0)), (((-3, 0), (0, 0)), (-1, 0)), (((1, 1), (-2, 1)), (1, -2))):
            self.check(True, book, TWO, weights, ("one ray", ray))
            x, y = ray
            others = (2 * x, 2 * y), (-x, -y), (y, x), (0, 0), (x, y, 0), (x,), [x, y], (x, str(y)), (x, None), None
            for other in others:
                self.check(False, book, TWO, weights, ("one ray", other))
        self.check(False, book, TWO, ((1, 1), (0, 0)), ("one ray", (True, 0)), ("one ray", (1, False)))

    def test_no_ray_for_what_is_not_seen_in_part(self):
        # The wholes lie on one ray, but one share is beyond.
        book = (2, ((3, -1), (1, 1)))
        self.check(False, book, TWO, ((1, 1), (0, 0)), ("one ray", (1, 0)), ("one ray", (0, 0)))
        self.check(False, (2, ((1, -1),)), TWO, ((1, 1), (0, 0)), ("one ray", (0, 0)), ("one ray", (1, 0)))
        self.check(False, (2, ((1, -1),)), TWO, ((1, 1), (0, 0)), ("one row", ((1, 1), (1, 2), (0, 1))))

    def test_values_of_other_kinds(self):
        for book, order, weights in ((SLOPE, TWO, SLOPES), (POTS, HALVES, BOTH), ((2, ()), TWO, SLOPES)):
            self.check(False, book, order, weights, *odd_values(), book, order, weights, LATE, ("one sign", 0))
            self.check(False, book, order, weights, ("one ray", ()), ("one row", ()), ("one ray", None))
            self.check(False, book, order, weights, ("one ray",), ("one ray", (0, 0), 0), ["one ray", (0, 0)])
            self.check(False, book, order, weights, {"one ray": (0, 0)}, ((0, 0), "one ray"))


class BreaksHull(unittest.TestCase):
    def check(self, wanted, book, order, weights, *values):
        for value in values:
            check_calls(self, wanted, breaks_hull, book=book, order=order, weights=weights, value=value)

    def test_as_another_way_tells_it_from_any_begin(self):
        random, found = Random(82), []
        for times in (2, 9, MOST):
            for _ in range(150):
                many = random.randint(1, 6)
                book, order = random_book(random, many, random.randint(0, 5), 9), random_order(random, many)
                weaving, weights = random_weaving(random, book, order, 5, times), random_weights(random, many)
                for begin in ((0,) * many, tuple(random.randint(-10 ** 9, 10 ** 9) for _ in range(many))):
                    read, met = strode_points(book, order, weights, begin, weaving)
                    found.append(not is_inside_a_ring(met, read))
                    self.assertEqual(found[-1], not is_in_a_triangle(met, read))
                    self.check(found[-1], book, order, weights, weaving)
        self.assertGreater(min(found.count(True), found.count(False)), 100)

    def test_a_hundred_runs(self):
        random, found = Random(83), []
        for _ in range(40):
            many = random.randint(3, 8)
            book, order = random_book(random, many, 8, 99), plain_order(many)
            weights = (tuple(random.randint(0, 1) for _ in range(many)), (1,) * many)
            stands = sorted(random.randint(1, many - 1) for _ in range(100))
            weaving = tuple((stand, random.randrange(8), random.randint(1, 3)) for stand in stands)
            read, met = strode_points(book, order, weights, (0,) * many, weaving)
            found.append(not is_inside_a_ring(met, read))
            self.check(found[-1], book, order, weights, weaving)
        self.assertGreater(min(found.count(True), found.count(False)), 3)

    def test_no_weaving_breaks_where_there_is_a_paper(self):
        random = Random(84)
        for _ in range(60):
            order = random_order(random, random.randint(2, 5))
            for book in likely_books(random, order):
                weights = random_weights(random, book[0])
                if told_papers(book, order, weights) != (None, None):
                    for times in (1, 5, MOST):
                        weaving = random_weaving(random, book, order, 6, times)
                        self.check(False, book, order, weights, weaving)

    def test_the_empty_weaving_and_one_block(self):
        self.check(False, POTS, HALVES, BOTH, ())
        self.check(False, POTS, ALL, BOTH, (), LATE, ((0, 0, 1),))
        self.check(False, (4, ()), HALVES, BOTH, (), LATE)

    def test_values_that_are_no_weaving(self):
        good = LATE
        self.check(True, POTS, HALVES, BOTH, good)
        self.check(
            False, POTS, HALVES, BOTH, list(good), (good[0], list(good[1])), good + (None,), good + ((1, 2, 1),),
            ((True, 0, 1), good[1]), ((1, False, 1), good[1]), (good[0], (1, True, 1)), (good[0], (1, 1, True)),
            ((0, 0, 1), good[1]), (good[0], (2, 1, 1)), (good[0], (1, -1, 1)), (good[0], (1, 1, 0)), (good,), good[0],
            (good[0], (1, 1, MOST + 1)), good * 51, {1: good}, good + ((1, 0, 0),),
        )

    def test_values_of_other_kinds(self):
        for book, order, weights in ((POTS, HALVES, BOTH), (SLOPE, TWO, SLOPES), ((2, ((1, -1),)), TWO, SLOPES)):
            self.check(False, book, order, weights, *odd_values(), book, order, weights, ("one ray", (0, 0)))


if __name__ == "__main__":
    unittest.main()
