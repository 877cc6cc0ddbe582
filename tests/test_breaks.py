import unittest
from fractions import Fraction
from itertools import product
from random import Random
from time import process_time

from passingsums.books import plain_order
from passingsums.breaks import far_off, two_runs
from passingsums.errors import NoBreak
from passingsums.weavings import read_of, span_met, weaving_error
from samples import check_calls, check_raises, orders_of, random_book, random_order, told_shares, walked

TWO, PLAIN = ((0,), (1,)), ((0,), (1,), (2,))
LOT, LINE = (3, ((1, -1, 1), (0, 0, 1))), (2, ((1, 2), (-2, -4), (3, 6)))
APART, THIRDS = (2, ((1, 0), (0, -1))), (2, ((2, 1), (-1, -1)))


def is_right(book, order):
    """Tell whether the book is right in the order as its papers do: by one sign, or one row of fractions."""
    shares = told_shares(book, order)
    wholes = [row[0] for row in shares]
    if any(not min(0, row[0]) <= share <= max(0, row[0]) for row in shares for share in row):
        return False
    if min(wholes, default=0) >= 0 or max(wholes, default=0) <= 0:
        return True
    rows = {tuple(Fraction(share, row[0]) for share in row) for row in shares if row[0]}
    return len(rows) == 1 and all(list(row) == sorted(row, reverse=True) for row in rows)


def beyond(shares, runs):
    """Return how far below the least total and above the greatest one is read by these runs, below 0 if it isn't."""
    total, totals, read = 0, [0], 0
    for stand, deed, times in runs:
        total += times * shares[deed][0]
        totals.append(total)
        read += times * shares[deed][stand]
    return min(totals) - read, read - max(totals)


def fewest_deeds(book, order, most):
    """Return the least number of deeds of at most two runs that break the book, by trying all; None if beyond most."""
    shares = told_shares(book, order)
    places = [(stand, deed) for stand in range(1, len(order)) for deed in range(len(book[1]))]
    for deeds in range(1, most + 1):
        for first in places:
            if max(beyond(shares, [(*first, deeds)])) > 0:
                return deeds
            for second in places:
                for times in range(1, deeds if first[0] <= second[0] else 1):
                    if max(beyond(shares, [(*first, times), (*second, deeds - times)])) > 0:
                        return deeds
    return None


def farthest(book, order, most):
    """Return what far_off does, by going through all weavings of so many deeds."""
    shares = told_shares(book, order)
    found = [0, 0]

    def go(stand, left, total, least, greatest, read):
        found[0] = max(found[0], least - read)
        found[1] = max(found[1], read - greatest)
        for later in range(stand, len(order) if left else 0):
            for row in shares:
                behind = total + row[0]
                go(later, left - 1, behind, min(least, behind), max(greatest, behind), read + row[later])

    go(1, most, 0, 0, 0, 0)
    return tuple(found)


def farthest_by_states(book, order, most):
    """Return what far_off does, by keeping all that so many deeds can lead to, from the first stand on."""
    shares = told_shares(book, order)
    states = [{(0, 0, 0, 0)}] + [set() for _ in range(most)]
    for stand in range(1, len(order)):
        for deeds in range(most):
            for total, least, greatest, read in states[deeds]:
                for row in shares:
                    behind = total + row[0]
                    states[deeds + 1].add((behind, min(least, behind), max(greatest, behind), read + row[stand]))
    ends = [state for found in states for state in found]
    return max(least - read for _, least, _, read in ends), max(read - greatest for _, _, greatest, read in ends)


def spread(number, cells):
    """Return a tuple of so many items from -99 to 99 whose sum is number."""
    items = []
    for left in range(cells, 0, -1):
        items.append(max(-99, min(99, number - sum(items))))
    assert sum(items) == number
    return tuple(items)


class Examples(unittest.TestCase):
    """The examples of the document, as they stand there."""

    def test_two_runs(self):
        check_calls(self, (1, ((1, 0, 1),)), two_runs, book=(2, ((1, -1),)), order=TWO)
        check_calls(self, (2, ((1, 0, 1), (1, 1, 1))), two_runs, book=APART, order=TWO)
        check_calls(self, (5, ((1, 0, 2), (1, 1, 3))), two_runs, book=THIRDS, order=TWO)

    def test_no_break(self):
        check_raises(self, NoBreak, two_runs, book=LOT, order=PLAIN)

    def test_far_off(self):
        check_calls(self, (0, 0), far_off, book=THIRDS, order=TWO, most=4)
        check_calls(self, (1, 0), far_off, book=THIRDS, order=TWO, most=5)
        check_calls(self, (3, 0), far_off, book=APART, order=TWO, most=6)
        check_calls(self, (3, 0), far_off, book=(2, ((1, -1),)), order=TWO, most=3)
        check_calls(self, (0, 0), far_off, book=LINE, order=TWO, most=6)

    def test_the_text_around_thirds(self):
        self.assertEqual(walked(THIRDS, TWO, (0, 0), ((1, 0, 2), (1, 1, 3))), (-1, [0, 3, 6, 4, 2, 0]))

    def test_the_text_around_apart(self):
        self.assertEqual(walked(APART, TWO, (0, 0), ((1, 0, 3), (1, 1, 3))), (-3, [0, 1, 2, 3, 2, 1, 0]))

    def test_more_runs_do_with_fewer_deeds(self):
        book = (2, ((6, 6), (1, 2), (-4, -6)))
        self.assertEqual(walked(book, TWO, (0, 0), ((1, 0, 2), (1, 1, 1), (1, 2, 3)))[0], -4)
        self.assertEqual(two_runs(book, TWO)[0], 7)
        wanted = [(0, 0)] * 6 + [(1, 0)]
        for most in range(7):
            check_calls(self, wanted[most], far_off, book=book, order=TWO, most=most)


class TwoRuns(unittest.TestCase):
    def check_right(self, book, order):
        self.assertTrue(is_right(book, order), (book, order))
        check_raises(self, NoBreak, two_runs, book=book, order=order)

    def check_breaks(self, book, order, wanted=None):
        """Check that the weaving told breaks the book, with as many deeds as are told, and as wanted."""
        self.assertFalse(is_right(book, order), (book, order))
        found = two_runs(book, order)
        check_calls(self, found, two_runs, book=book, order=order)
        deeds, weaving = found
        self.assertIs(type(found), tuple)
        self.assertIs(type(deeds), int)
        self.assertIsNone(weaving_error(book, order, weaving), (book, order, weaving))
        self.assertIn(len(weaving), (1, 2))
        self.assertEqual(sum(times for _, _, times in weaving), deeds)
        begin = (0,) * book[0]
        read, totals = walked(book, order, begin, weaving)
        self.assertFalse(min(totals) <= read <= max(totals), (book, order, weaving))
        if wanted is not None:
            self.assertEqual(deeds, wanted, (book, order, weaving))

    def check(self, book, order, most=None):
        """Check that what is told fits with the papers, and, if most is told, with trying all of so many deeds."""
        if is_right(book, order):
            self.check_right(book, order)
            self.assertIsNone(most and fewest_deeds(book, order, most))
        else:
            self.check_breaks(book, order, most and fewest_deeds(book, order, most))

    def test_all_small_books_of_two_deeds(self):
        rows = list(product(range(-2, 3), repeat=2))
        for book in product(rows, repeat=2):
            self.check((2, book), TWO, 10)

    def test_small_books_in_all_orders(self):
        random = Random(21)
        for many, books, most in ((3, 20, 10), (4, 3, 8)):
            for order in orders_of(tuple(range(many))):
                for _ in range(books):
                    self.check(random_book(random, many, random.randint(0, 3), 2), order, most)

    def test_books_of_few_unlike_deeds_with_shares_amid(self):
        # Each deed's items have one sign: so no deed breaks by itself, and two runs are needed.
        random = Random(22)
        for _ in range(150):
            many = random.randint(2, 3)
            rows = [tuple(sign * random.randint(0, 3) for _ in range(many)) for sign in (1, -1)]
            self.check((many, tuple(rows[::random.choice((1, -1))])), random_order(random, many), 18)

    def test_random_books(self):
        random = Random(23)
        for _ in range(300):
            many, bound = random.randint(1, 8), random.choice((1, 3, 99))
            self.check(random_book(random, many, random.randint(0, 8), bound), random_order(random, many))

    def test_random_books_of_unlike_deeds(self):
        random = Random(24)
        for _ in range(200):
            many, bound = random.randint(2, 8), random.choice((3, 20, 99))
            rows = []
            for _ in range(random.randint(1, 8)):
                sign = random.choice((1, -1))
                rows.append(tuple(sign * random.randint(0, bound) for _ in range(many)))
            self.check((many, tuple(rows)), random_order(random, many))

    def test_right_books_of_one_sign(self):
        random = Random(25)
        for many in range(1, 9):
            for sign in (1, -1):
                rows = tuple(tuple(sign * random.randint(0, 99) for _ in range(many)) for _ in range(8))
                for order in (plain_order(many), plain_order(many)[::-1], random_order(random, many)):
                    self.check_right((many, rows), order)
                    self.check_right((many, rows[:3] + ((0,) * many,)), order)

    def test_right_books_without_deeds_and_in_one_block(self):
        random = Random(26)
        for many in range(1, 9):
            self.check_right((many, ()), plain_order(many))
            self.check_right((many, ((0,) * many,) * 8), plain_order(many))
            self.check_right(random_book(random, many, 8, 99), (tuple(range(many)),))
        for item in (-99, -1, 0, 1, 99):
            self.check_right((1, ((item,), (-item,))), ((0,),))

    def test_right_books_of_one_row_of_both_signs_and_with_one_item_off(self):
        random = Random(27)
        for _ in range(80):
            many = random.randint(2, 8)
            row = tuple(random.randint(1, 12) for _ in range(many))
            order = random_order(random, many)
            rows = tuple(tuple(times * item for item in row) for times in (1, -2, 3, -8, 0))
            self.check_right((many, rows), order)
            at, cell, more = random.randrange(5), random.randrange(many), random.choice((-1, 1))
            off = rows[at][:cell] + (rows[at][cell] + more,) + rows[at][cell + 1:]
            self.check((many, rows[:at] + (off,) + rows[at + 1:]), order)
            if len(order) > 1:
                self.check_breaks((many, rows[:at] + (off,) + rows[at + 1:]), order)

    def test_a_row_with_items_of_both_signs(self):
        self.check_right((3, ((4, -1, 2), (-4, 1, -2))), ((0, 1), (2,)))
        self.check_right((3, ((4, -1, 2), (-4, 1, -2))), ((1, 2), (0,)))
        # Each share lies between 0 and the whole, but the part rises from 1/5 to 2/5.
        self.check_right((3, ((4, -1, 2),)), PLAIN)
        self.check_breaks((3, ((4, -1, 2), (-4, 1, -2))), PLAIN, 2)

    def test_the_part_that_rises_needs_two_stands(self):
        book = (3, ((2, -1, 3), (-2, 1, -3)))
        for order in orders_of((0, 1, 2)):
            self.check(book, order, 10)

    def test_a_part_that_rises_from_nought(self):
        # The shares of the one deed are 2, 0, 1 and 0; nothing is seen of the other one.
        for rows in (((-1, 0, 0), (2, -1, 1))[::step] for step in (1, -1)):
            self.check_breaks((3, rows), PLAIN, 3)
            self.assertEqual(fewest_deeds((3, rows), PLAIN, 5), 3)

    def test_parts_that_rise_and_fall(self):
        random = Random(29)
        for _ in range(150):
            many = random.randint(2, 4)
            rows = []
            for sign in random.choice(((1, -1), (-1, 1), (1, -1, -1), (1, 1, -1))):
                whole = random.randint(1, 4)
                shares = [whole] + [random.randint(0, whole) for _ in range(many - 1)] + [0]
                rows.append(tuple(sign * (share - later) for share, later in zip(shares, shares[1:])))
            self.check((many, tuple(rows)), plain_order(many), 8)

    def test_one_deed(self):
        self.check_breaks((2, ((-1, 1),)), TWO, 1)
        self.check_breaks((3, ((1, -1, 0),)), PLAIN, 1)
        self.check_breaks((3, ((0, 1, -1),)), PLAIN, 1)
        self.check_breaks((3, ((5, 5, 5), (-5, -5, -5), (2, -3, 2))), ((1,), (0, 2)), 1)
        self.check_breaks((2, ((1, 0), (0, -1), (-1, 2))), TWO, 1)
        self.check_breaks((8, ((99, 99, 99, 99, 99, 99, 99, 99), (0, 0, 0, 0, 0, 0, 1, -1))), plain_order(8), 1)

    def test_a_part_of_nought(self):
        # Nothing or all is seen of one deed or of both, at the one stand.
        for first, second in product(((1, 0), (0, 1), (3, 0), (0, 3), (3, 1), (1, 3), (2, 2)), repeat=2):
            for sign in (1, -1):
                rows = tuple(sign * item for item in first), tuple(-sign * item for item in second)
                self.check((2, rows), TWO, 12)

    def test_the_fewest_times_of_one_deed_and_one(self):
        # One of the first deed, and as many of the other one as make what is seen of it more.
        for seen in range(1, 90, 7):
            self.check_breaks((2, ((seen + 1, seen), (0, -1))), TWO, seen + 2)
            self.check_breaks((2, ((-1, 0), (seen, seen + 1))), TWO, fewest_between((0, 1), (seen + 1, seen)))

    def test_parts_that_are_neighbours_as_fractions(self):
        for number in (2, 3, 10, 50, 99, 250, 395):
            first, second = (number, number - 1), (number + 1, number)
            self.check_parts(first, second, 4 * number)

    def test_parts_of_all_kinds(self):
        random = Random(28)
        for _ in range(150):
            bound = random.choice((5, 30, 396))
            first, second = [(random.randint(1, bound), random.randint(1, bound)) for _ in range(2)]
            if first[0] * second[1] > second[0] * first[1]:
                self.check_parts(first, second, fewest_between(first, second))
            elif first[0] * second[1] < second[0] * first[1]:
                self.check_parts(second, first, fewest_between(second, first))

    def test_wholes_of_seven_hundred_and_ninety_two(self):
        self.check_parts((396, 396), (396, 395), fewest_between((396, 396), (396, 395)))
        self.check_parts((396, 395), (396, 394), fewest_between((396, 395), (396, 394)))
        for unseen in range(1, 8):
            whole, less = (99,) * 8, (-99,) * (unseen - 1) + (-98,) + (-99,) * (8 - unseen)
            order = (tuple(range(unseen)), tuple(range(unseen, 8)))
            wanted = fewest_between((99 * unseen, 99 * (8 - unseen)), (99 * unseen - 1, 99 * (8 - unseen)))
            self.check_breaks((8, (whole, less)), order, wanted)

    def check_parts(self, first, second, wanted):
        """Check a deed and one against it with these unseen and seen parts, first and last in both signs."""
        self.assertEqual(fewest_between(first, second), wanted)
        order = ((0, 1, 2, 3), (4, 5, 6, 7))
        for sign in (1, -1):
            rows = (
                spread(sign * first[0], 4) + spread(sign * first[1], 4),
                spread(-sign * second[0], 4) + spread(-sign * second[1], 4),
            )
            self.check_breaks((8, rows), order, wanted)
            self.check_breaks((8, rows[::-1]), order, wanted)
            self.check_breaks((8, (rows[1], (0,) * 8, rows[0])), ((4, 5, 6, 7), (0, 1, 2, 3)), wanted)


def fewest_between(first, second):
    """Return how few deeds of two kinds break a book of one stand, by trying each number of the one done first.

    The deeds are given by their unseen and seen parts. If it is m and n times that they are done, more must be
    seen of the second one, m * s < n * s', and less unseen, n * u' < m * u. Which is first is tried, too.
    """
    found = []
    for (unseen, seen), (later_unseen, later_seen) in ((first, second), (second, first)):
        for times in range(1, 1600):
            later = times * seen // later_seen + 1 if later_seen else 0
            if later and later * later_unseen < times * unseen:
                found.append(times + later)
    return min(found, default=None)


class FarOff(unittest.TestCase):
    def check(self, wanted, book, order, most):
        check_calls(self, wanted, far_off, book=book, order=order, most=most)

    def check_all(self, book, order, most=6, wanted=farthest):
        """Check all numbers of deeds up to most; what is told never falls, and is nothing for a right book."""
        last = (0, 0)
        for deeds in range(most + 1):
            told = wanted(book, order, deeds)
            self.check(told, book, order, deeds)
            self.assertTrue(last[0] <= told[0] and last[1] <= told[1])
            last = told
        if is_right(book, order):
            self.assertEqual(last, (0, 0))

    def test_all_small_books_of_two_deeds(self):
        rows = list(product((-1, 0, 1), repeat=2))
        for book in product(rows, repeat=2):
            self.check_all((2, book), TWO)

    def test_small_books_in_all_orders(self):
        random = Random(31)
        for order in orders_of((0, 1, 2)):
            for bound in (1, 2, 9, 99):
                for _ in range(3):
                    self.check_all(random_book(random, 3, 2, bound), order, 5)
                    self.check_all(random_book(random, 3, 3, bound), order, 4)

    def test_random_books(self):
        random = Random(32)
        for _ in range(60):
            many = random.randint(2, 5)
            self.check_all(random_book(random, many, random.randint(0, 4), 99), random_order(random, many), 3)

    def test_unlike_deeds_with_shares_amid(self):
        random = Random(33)
        for _ in range(40):
            many, number = random.randint(2, 3), random.randint(2, 3)
            rows = tuple(
                tuple((-1) ** deed * random.randint(0, 20) for _ in range(many)) for deed in range(number))
            self.check_all((many, rows), random_order(random, many), 6 if number * many < 6 else 5)

    def test_by_what_so_many_deeds_can_lead_to(self):
        random = Random(34)
        for many, number, bound in ((3, 3, 3), (4, 4, 1), (2, 8, 9), (5, 3, 1), (8, 2, 1)):
            for _ in range(3):
                rows = tuple(tuple(random.randint(-bound, bound) for _ in range(many)) for _ in range(number))
                self.check_all((many, rows), plain_order(many), 6, farthest_by_states)

    def test_eight_cells_and_eight_rows_of_ones(self):
        random = Random(35)
        rows = []
        for _ in range(8):
            held = dict(zip(random.sample(range(8), 2), random.choice(((1, -1), (1, 0), (-1, 0)))))
            rows.append(tuple(held.get(cell, 0) for cell in range(8)))
        order = plain_order(8)
        self.check(farthest_by_states((8, tuple(rows)), order, 6), (8, tuple(rows)), order, 6)

    def test_nothing_for_right_books(self):
        books = [(LOT, PLAIN), (LINE, TWO), ((2, ()), TWO), ((2, ((0, 0),)), TWO)]
        books += [((4, ((1, 2, 3, 4), (-9, -18, -27, -36))), plain_order(4)), ((8, ((99,) * 8,) * 8), plain_order(8))]
        books += [((8, ((-99,) * 8, (0,) * 8)), plain_order(8)), ((8, ((99,) * 8, (-99,) * 8)), plain_order(8))]
        for book, order in books:
            for most in range(7):
                self.check((0, 0), book, order, most)

    def test_nothing_for_one_block(self):
        random = Random(36)
        for many in range(1, 9):
            for most in range(7):
                self.check((0, 0), random_book(random, many, 8, 99), (tuple(range(many)),), most)

    def test_nothing_for_no_deeds(self):
        random = Random(37)
        for many in range(1, 9):
            self.check((0, 0), random_book(random, many, 8, 99), plain_order(many), 0)
            for most in range(7):
                self.check((0, 0), (many, ()), plain_order(many), most)

    def test_each_deed_leads_farther(self):
        for most in range(7):
            self.check((99 * most, 0), (2, ((99, -99),)), TWO, most)
            self.check((0, 99 * most), (2, ((-99, 99),)), TWO, most)
            self.check((99 * most, 99 * most), (2, ((99, -99), (-99, 99))), TWO, most)
            self.check((most // 2, 0), APART, TWO, most)
            self.check((396 * most, 0), (8, ((99, 99, 99, 99, -99, -99, -99, -99),)), plain_order(8), most)

    def test_both_ways_are_told_each_for_itself(self):
        random = Random(38)
        for _ in range(40):
            many, order = 4, plain_order(4)
            book = random_book(random, many, 5, 99)
            mirrored = (many, tuple(tuple(-item for item in row) for row in book[1]))
            for most in (1, 4, 6):
                below, above = far_off(book, order, most)
                self.check((above, below), mirrored, order, most)

    def test_no_weaving_leads_farther(self):
        random = Random(39)
        for _ in range(50):
            many = random.randint(2, 8)
            book, order = random_book(random, many, random.randint(1, 8), 99), random_order(random, many)
            if len(order) > 1:
                below, above = far_off(book, order, 6)
                for _ in range(100):
                    stands = sorted(random.randint(1, len(order) - 1) for _ in range(6))
                    weaving = tuple((stand, random.randrange(len(book[1])), 1) for stand in stands)
                    told = {"book": book, "order": order, "begin": (0,) * many, "weaving": weaving}
                    read, (least, greatest) = read_of(**told), span_met(**told)
                    self.assertTrue(least - below <= read <= greatest + above, (book, order, weaving))

    def test_as_two_runs_tell_it(self):
        random = Random(40)
        for _ in range(200):
            many = random.randint(2, 8)
            book, order = random_book(random, many, random.randint(1, 8), 3), random_order(random, many)
            found = far_off(book, order, 6)
            if is_right(book, order):
                self.assertEqual(found, (0, 0))
            elif two_runs(book, order)[0] <= 6:
                self.assertGreater(max(found), 0)

    def test_eight_cells_and_eight_rows_take_little_time(self):
        random = Random(41)
        started = process_time()
        for bound in (1, 9, 99):
            for sign in (1, -1, 0):
                low = -bound if sign == 0 else 0
                rows = tuple(
                    tuple((sign or 1) ** deed * random.randint(low, bound) for _ in range(8)) for deed in range(8))
                below, above = far_off((8, rows), plain_order(8), 6)
                self.assertTrue(below >= 0 and above >= 0)
        self.assertLess(process_time() - started, 9 * 5)


if __name__ == "__main__":
    unittest.main()
