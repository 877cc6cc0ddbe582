import unittest
from fractions import Fraction
from itertools import combinations, permutations, product
from math import factorial
from random import Random
from time import process_time

from passingsums.books import order_error, plain_order
from passingsums.chains import (
    every_order, finest, is_good, kept_right, most_blocks, order_at, order_number, right_orders,
)
from passingsums.errors import Unfit
from samples import (
    blocks_of, books_of_kinds, check_calls, check_raises, odd_values, orders_of, random_book, random_order, shown,
    told_paper,
)

SHIFT, DENT = (3, ((1, -1, 0), (0, 0, 2))), (3, ((2, -1, 1),))
SWING, APART = (3, ((2, -1, 3), (-2, 1, -3))), (2, ((3, 1), (-2, -2)))
PLAIN = ((0,), (1,), (2,))


def lots_of(many):
    return [()] + blocks_of(tuple(range(many)))


def part_of(book, cells):
    """Tell the part of a lot in another way: None if it is not good, "any" if there are not wholes of both signs."""
    shares = [(sum(row[cell] for cell in cells), sum(row)) for row in book[1]]
    for share, whole in shares:
        if abs(share) + abs(whole - share) != abs(whole):
            return None
    if len({whole > 0 for _, whole in shares if whole}) < 2:
        return "any"
    parts = {Fraction(share, whole) for share, whole in shares if whole}
    return parts.pop() if len(parts) == 1 else None


def right_plain_orders(book):
    """Return all plain orders that have a paper, as the papers' rule tells it, in the order of tuples."""
    plain = [tuple((cell,) for cell in cells) for cells in permutations(range(book[0]))]
    return [order for order in plain if told_paper(book, order) is not None]


def sample_books(random, many):
    """Return books of so many cells: of all kinds, right in some order or in none."""
    found = books_of_kinds(random, random_order(random, many), random.randint(2, 8))
    found += books_of_kinds(random, plain_order(many), 3)
    return found + [random_book(random, many, random.randint(0, 3), bound) for bound in (1, 2, 9, 99)]


class Examples(unittest.TestCase):
    """The examples of the document, as they stand there."""

    def test_lots(self):
        lots = (), (2,), (0, 1), (0, 1, 2), (0,), (1, 2)
        for wanted, cells in zip((True, True, True, True, False, False), lots):
            check_calls(self, wanted, is_good, book=SHIFT, cells=cells)
        lots = (0,), (1,), (2,), (0, 1), (0, 2), (1, 2)
        for wanted, cells in zip((True, False, True, True, False, True), lots):
            check_calls(self, wanted, is_good, book=DENT, cells=cells)
        lots = (0,), (2,), (0, 1), (1, 2), (1,), (0, 2)
        for wanted, cells in zip((True, True, True, True, False, False), lots):
            check_calls(self, wanted, is_good, book=SWING, cells=cells)
        check_calls(self, False, is_good, book=APART, cells=(0,))
        check_calls(self, True, is_good, book=APART, cells=())

    def test_right_orders(self):
        books = SHIFT, DENT, SWING, (2, ((3, 1), (-6, -2))), (3, ()), (1, ((5,),))
        for wanted, book in zip((0, 2, 0, 2, 6, 1), books):
            check_calls(self, wanted, right_orders, book=book)

    def test_numbers(self):
        check_calls(self, ((0,), (1,), (2,)), order_at, book=DENT, value=0)
        check_calls(self, ((2,), (1,), (0,)), order_at, book=DENT, value=1)
        check_calls(self, 1, order_number, book=DENT, order=((2,), (1,), (0,)))
        check_calls(self, ((2,), (0,), (1,)), order_at, book=(3, ()), value=4)
        for value in (2, True):
            check_raises(self, Unfit, order_at, book=DENT, value=value)
        for order in (((1,), (0,), (2,)), ((0,), (1, 2))):
            check_raises(self, Unfit, order_number, book=DENT, order=order)

    def test_most_blocks(self):
        for wanted, book in zip((2, 3, 2, 1), (SHIFT, DENT, SWING, APART)):
            check_calls(self, wanted, most_blocks, book=book)
        check_calls(self, ((0, 1),), finest, book=APART)
        check_calls(self, ((0,),), finest, book=(1, ()))
        self.assertIn(finest(SHIFT), (((0, 1), (2,)), ((2,), (0, 1))))

    def test_every_order(self):
        books = (3, ((1, 0, 4), (0, 0, 0))), (2, ((3, 1), (-6, -2))), (2, ((1, 2), (-1, 0))), DENT, (3, ())
        for wanted, book in zip((True, True, False, False, True), books):
            check_calls(self, wanted, every_order, book=book)

    def test_kept(self):
        check_calls(self, (1, (1,)), kept_right, book=SHIFT, order=PLAIN)
        check_calls(self, (1, (0,)), kept_right, book=DENT, order=PLAIN)
        check_calls(self, (2, (0, 1)), kept_right, book=APART, order=((0, 1),))
        check_calls(self, (2, (0, 2)), kept_right, book=(2, ((3, 1), (-2, -2), (1, 0))), order=((0,), (1,)))
        self.assertEqual(kept_right(SWING, PLAIN)[0], 1)

    def test_the_text_around(self):
        parts = [part_of(SWING, cells) for cells in ((0,), (2,), (0, 1), (1, 2))]
        self.assertEqual(parts, [Fraction(1, 2), Fraction(3, 4), Fraction(1, 4), Fraction(1, 2)])
        self.assertEqual([part_of((3, SWING[1][at:at + 1]), (1, 2)) for at in range(2)], ["any", "any"])
        self.assertIsNotNone(told_paper(DENT, ((0,), (1, 2))))


class IsGood(unittest.TestCase):
    def check(self, book):
        for cells in lots_of(book[0]):
            wanted, lacked = part_of(book, cells), tuple(cell for cell in range(book[0]) if cell not in cells)
            check_calls(self, wanted is not None, is_good, book=book, cells=cells)
            # The cells that it lacks are good with it, and both parts together are 1.
            if wanted not in (None, "any"):
                self.assertEqual(wanted + part_of(book, lacked), 1)
            self.assertEqual(wanted is None, part_of(book, lacked) is None)

    def test_all_small_books_of_two_deeds(self):
        for rows in product(product((-2, -1, 0, 1, 2), repeat=2), repeat=2):
            self.check((2, rows))

    def test_books_of_all_kinds(self):
        random = Random(91)
        for many in (1, 2, 3, 4, 5):
            for _ in range(8):
                for book in sample_books(random, many):
                    self.check(book)

    def test_a_whole_of_nought(self):
        for row in ((1, -1, 0), (-1, 0, 1), (0, 0, 0), (2, -1, -1)):
            for others in ((), ((1, 1, 1),), ((1, 1, 1), (-1, -1, -1)), ((0, 0, 3), (0, 0, -1))):
                self.check((3, (row,) + others))
                self.check((3, others + (row,)))

    def test_eight_cells(self):
        random = Random(92)
        for book in (random_book(random, 8, 8, 99), (8, ((99,) * 8, (-99,) * 8)), (8, ()), (8, ((1,) * 8,) * 8)):
            for cells in lots_of(8):
                self.assertIs(is_good(book, cells), part_of(book, cells) is not None)


class PlainOrders(unittest.TestCase):
    def check(self, book):
        """Check how many plain orders are right, and the numbers of all, against the papers of all plain orders."""
        wanted = right_plain_orders(book)
        check_calls(self, len(wanted), right_orders, book=book)
        check_calls(self, len(wanted) == factorial(book[0]), every_order, book=book)
        for cells in permutations(range(book[0])) if book[0] < 5 else ():
            order = tuple((cell,) for cell in cells)
            if order not in wanted:
                check_raises(self, Unfit, order_number, book=book, order=order)
        for number, order in list(enumerate(wanted))[::1 + len(wanted) // 30]:
            check_calls(self, order, order_at, book=book, value=number)
            check_calls(self, number, order_number, book=book, order=order)
        for value in (-1, len(wanted), len(wanted) + 1, True, False, None):
            check_raises(self, Unfit, order_at, book=book, value=value)
        self.assertTrue(book[0] == 1 or len(wanted) % 2 == 0)
        return len(wanted)

    def test_all_small_books_of_two_deeds(self):
        for rows in product(product((-2, -1, 0, 1, 2), repeat=2), repeat=2):
            self.check((2, rows))

    def test_books_of_all_kinds(self):
        random, found = Random(93), []
        for many, times in ((1, 3), (2, 8), (3, 8), (4, 6), (5, 2)):
            for _ in range(times):
                found += [(self.check(book), many) for book in sample_books(random, many)]
        some = [number for number, many in found if 0 < number < factorial(many)]
        self.assertGreater(len(some), 10)
        self.assertGreater([number for number, _ in found].count(0), 15)

    def test_both_signs_and_a_part_that_may_not_rise(self):
        random = Random(94)
        for many in (2, 3, 4):
            for _ in range(12):
                row = tuple(random.randint(-2, 4) for _ in range(many))
                rows = tuple(tuple(times * item for item in row) for times in (2, -3, 1)[:random.randint(1, 3)])
                self.check((many, rows))
                self.check((many, rows[::-1]))
                still = (0,) * (many - 2) + (1, -1)
                self.check((many, (still,) + rows))

    def test_orders_that_are_not_plain(self):
        random = Random(95)
        for book in (DENT, (3, ()), (3, ((1, 1, 1), (-1, -1, -1))), SHIFT):
            for order in orders_of((0, 1, 2)):
                if len(order) < 3:
                    check_raises(self, Unfit, order_number, book=book, order=order)
        for many in range(2, 9):
            book, order = (many, ()), random_order(random, many)
            if len(order) < many:
                check_raises(self, Unfit, order_number, book=book, order=order)
            check_raises(self, Unfit, order_number, book=book, order=(tuple(range(many)),))

    def test_eight_cells_take_little_time(self):
        started, random = process_time(), Random(96)
        row = (5, 1, 2, 3, 0, 9, 12, 7)
        for book in ((8, ()), (8, (row,) * 8), (8, (row, tuple(-item for item in row)) * 4)):
            self.assertEqual(right_orders(book), 40320)
            self.assertIs(every_order(book), True)
            self.assertEqual(order_at(book, 0), plain_order(8))
            self.assertEqual(order_at(book, 40319), plain_order(8)[::-1])
            cells = list(permutations(range(8)))
            for number in (1, 5039, 5040, 20160, *[random.randrange(40320) for _ in range(10)]):
                order = tuple((cell,) for cell in cells[number])
                self.assertEqual(order_at(book, number), order)
                self.assertEqual(order_number(book, order), number)
            check_raises(self, Unfit, order_at, book=book, value=40320)
        self.assertLess(process_time() - started, 30)

    def test_eight_cells_of_which_few_orders_are_right(self):
        # Four pairs, of which the second cell may not be left alone: each first cell stands ahead of its second one.
        rows = tuple(tuple((-1, 2)[cell % 2] if cell // 2 == at else 0 for cell in range(8)) for at in range(4))
        self.assertEqual(right_orders((8, rows)), 0)
        rows = tuple(tuple((1, 3)[cell % 2] if cell // 2 == at else 0 for cell in range(8)) for at in range(4))
        self.assertEqual(right_orders((8, rows)), 40320)
        rows = ((1, 1, -1, -1, 1, 0, 0, 0),)
        wanted = 0
        for cells in permutations(range(5)):
            shares = [sum(rows[0][cell] for cell in cells[at:]) for at in range(6)]
            wanted += all(0 <= share <= 1 for share in shares)
        self.assertEqual(right_orders((8, rows)), wanted * 6 * 7 * 8)

    def test_numbers_that_are_none(self):
        for book in (DENT, (3, ()), SHIFT):
            values = [value for value in odd_values() if value not in (0, 1) or isinstance(value, bool)]
            for value in (*values, 6, -6, 10 ** 300, "0", (0,), [0], PLAIN):
                check_raises(self, Unfit, order_at, book=book, value=value)
        for value in (0, 1, -1):
            check_raises(self, Unfit, order_at, book=SHIFT, value=value)

    def test_the_greatest_items(self):
        for many in (2, 3, 4):
            for row in ((99,) * many, (99,) * (many - 1) + (-99,), (-99,) * (many - 1) + (98,)):
                self.check((many, (row,)))
                self.check((many, (row, tuple(-item for item in row))))


class Blocks(unittest.TestCase):
    def check(self, book):
        """Check the greatest number of blocks against the papers of all orders."""
        right = [order for order in orders_of(tuple(range(book[0]))) if told_paper(book, order) is not None]
        most = max(len(order) for order in right)
        check_calls(self, most, most_blocks, book=book)
        order = finest(book)
        check_calls(self, order, finest, book=book)
        self.assertIsNone(order_error(book[0], order))
        self.assertIn(order, right)
        self.assertEqual(len(order), most)
        self.assertEqual(most == book[0], right_orders(book) > 0)
        return most

    def test_all_small_books_of_two_deeds(self):
        for rows in product(product((-2, -1, 0, 1, 2), repeat=2), repeat=2):
            self.check((2, rows))

    def test_books_of_all_kinds(self):
        random, found = Random(97), []
        for many, times in ((1, 2), (2, 4), (3, 8), (4, 4), (5, 1)):
            for _ in range(times):
                found += [(self.check(book), many) for book in sample_books(random, many)]
        self.assertGreater(len([most for most, many in found if 1 < most < many]), 10)

    def test_both_signs_and_a_part_that_may_not_rise(self):
        random = Random(98)
        for many in (3, 4):
            for _ in range(25):
                row = tuple(random.randint(-3, 4) for _ in range(many))
                self.check((many, (row, tuple(-item for item in row))))
                self.check((many, (tuple(-item for item in row), tuple(2 * item for item in row), (0,) * many)))

    def test_eight_cells_take_little_time(self):
        started, random = process_time(), Random(99)
        self.assertEqual(most_blocks((8, ())), 8)
        self.assertEqual(most_blocks((8, ((1, -1) * 4,))), 4)
        self.assertEqual(len(finest((8, ((99,) * 8, (-99,) * 8)))), 8)
        for bound in (1, 9, 99):
            for _ in range(5):
                book = random_book(random, 8, 8, bound)
                order = finest(book)
                self.assertIsNone(order_error(8, order))
                self.assertIsNotNone(told_paper(book, order))
                self.assertEqual(most_blocks(book), len(order))
        self.assertLess(process_time() - started, 30)


class EveryOrder(unittest.TestCase):
    def test_as_its_rule_tells_it(self):
        random, found = Random(100), []
        for many in (1, 2, 3, 4, 6):
            for _ in range(60):
                bound, size = random.choice((1, 3)), random.randint(0, 4)
                row = tuple(random.randint(0, bound) for _ in range(many))
                rows = [tuple(random.randint(-2, 2) * item for item in row) for _ in range(size)]
                times = [random.randint(-2, 2) for _ in range(size)]
                likely = [tuple(number * item for item in row) for number in times]
                plus = [tuple(abs(item) for item in one) for one in rows]
                for lot in (rows, likely, plus, [tuple(-item for item in one) for one in plus], likely + [row]):
                    book = (many, tuple(lot))
                    wanted = has_no_unlike_items(book) or are_multiples(book)
                    check_calls(self, wanted, every_order, book=book)
                    found.append(wanted)
        self.assertGreater(min(found.count(True), found.count(False)), 100)


def has_no_unlike_items(book):
    items = [item for row in book[1] for item in row]
    return min(items, default=0) >= 0 or max(items, default=0) <= 0


def are_multiples(book):
    """Tell whether all rows are multiples of one row without items below 0: no two are off one line, none turns."""
    rows = [row for row in book[1] if any(row)]
    straight = all(
        first[at] * second[to] == first[to] * second[at]
        for first, second in combinations(rows, 2) for at in range(book[0]) for to in range(book[0]))
    return straight and all(min(row) >= 0 or max(row) <= 0 for row in rows)


class KeptRight(unittest.TestCase):
    def check(self, book, order):
        """Check the deeds kept against all choices of deeds."""
        many, rows = book
        sizes = [
            size for size in range(len(rows) + 1) for lot in combinations(rows, size)
            if told_paper((many, lot), order) is not None
        ]
        number, deeds = kept_right(book, order)
        check_calls(self, (number, deeds), kept_right, book=book, order=order)
        self.assertEqual(number, max(sizes))
        self.assertEqual((type(deeds), len(deeds)), (tuple, number))
        self.assertEqual(list(deeds), sorted(set(deeds)))
        self.assertIsNotNone(told_paper((many, tuple(rows[deed] for deed in deeds)), order))
        return number, len(rows)

    def test_books_of_all_kinds(self):
        random, found = Random(101), []
        for many in range(1, 9):
            for _ in range(2):
                order = random_order(random, many)
                for book in books_of_kinds(random, order, 5):
                    found.append(self.check(book, order))
        self.assertGreater(len([number for number, size in found if 0 < number < size]), 20)

    def test_small_books_in_all_orders(self):
        random = Random(102)
        for order in orders_of((0, 1, 2)):
            for _ in range(6):
                self.check(random_book(random, 3, random.randint(1, 5), 2), order)

    def test_all_and_none(self):
        whole = ((0, 1),)
        self.assertEqual(kept_right((2, ((1, -1), (99, -99))), ((0,), (1,))), (0, ()))
        self.assertEqual(kept_right((2, ()), ((1,), (0,))), (0, ()))
        self.assertEqual(kept_right((2, ((1, -1),) * 8), whole), (8, tuple(range(8))))
        self.assertEqual(kept_right((2, ((2, 1), (-4, -2), (1, 1), (0, 0))), ((0,), (1,))), (3, (0, 1, 3)))

    def test_eight_rows(self):
        random = Random(103)
        for _ in range(3):
            order = random_order(random, 8)
            base = tuple(random.randint(0, 9) for _ in range(8))
            rows = [tuple(random.randint(-9, 9) * item for item in base) for _ in range(4)]
            rows += [tuple(times * item for item in base) for times in (3, -3, 0, 9)]
            self.check((8, tuple(random.sample(rows, 8))), order)


class WhatHolds(unittest.TestCase):
    def test_orders_told_backwards_and_blocks_joined(self):
        random = Random(104)
        for many in (2, 3, 4):
            for book in sample_books(random, many):
                for order in orders_of(tuple(range(many))):
                    right = told_paper(book, order) is not None
                    self.assertEqual(told_paper(book, order[::-1]) is not None, right)
                    for at in range(len(order) - 1 if right else 0):
                        joined = order[:at] + (tuple(sorted(order[at] + order[at + 1])),) + order[at + 2:]
                        self.assertIsNotNone(told_paper(book, joined))

    def test_right_is_that_all_rests_are_good_and_their_part_never_rises(self):
        random = Random(105)
        for many in (1, 2, 3, 4):
            for book in sample_books(random, many):
                for order in orders_of(tuple(range(many))):
                    rests = [tuple(sorted(sum(order[at:], ()))) for at in range(len(order) + 1)]
                    good = all(is_good(book, cells) for cells in rests)
                    parts = [part_of(book, cells) for cells in rests] if good else []
                    falls = good and ("any" in parts or parts == sorted(parts, reverse=True))
                    self.assertEqual(told_paper(book, order) is not None, falls, (book, order))

    def test_rows_left_out_doubled_and_multiplied(self):
        random = Random(106)
        for many in (2, 3, 4):
            for _, rows in sample_books(random, many):
                rows = rows[:7]
                number, most = right_orders((many, rows)), most_blocks((many, rows))
                for at, row in enumerate(rows):
                    less = (many, rows[:at] + rows[at + 1:])
                    self.assertGreaterEqual(right_orders(less), number)
                    self.assertGreaterEqual(most_blocks(less), most)
                    self.assertEqual(right_orders((many, rows + (row,))), number)
                    if max(map(abs, row)) < 34:
                        more = (many, rows[:at] + (tuple(3 * item for item in row),) + rows[at + 1:])
                        self.assertEqual((right_orders(more), most_blocks(more)), (number, most))

    def test_cells_called_otherwise(self):
        random = Random(107)
        for many in (2, 3, 5):
            for book in sample_books(random, many):
                named = random.sample(range(many), many)
                other = (many, tuple(tuple(row[cell] for cell in named) for row in book[1]))
                self.assertEqual(
                    (right_orders(book), most_blocks(book), every_order(book)),
                    (right_orders(other), most_blocks(other), every_order(other)))
                order = random_order(random, many)
                renamed = tuple(tuple(sorted(named.index(cell) for cell in block)) for block in order)
                self.assertEqual(kept_right(book, order)[0], kept_right(other, renamed)[0])

    def test_equal_values_each_time(self):
        for book in (SHIFT, DENT, SWING, APART, (5, ((1, 2, 3, -1, 0), (0, 0, 1, -1, 2)))):
            self.assertEqual(len({shown(finest(book)) for _ in range(5)}), 1)
            self.assertEqual(len({shown(kept_right(book, plain_order(book[0]))) for _ in range(5)}), 1)


if __name__ == "__main__":
    unittest.main()
