import unittest
from random import Random

from passingsums.books import plain_order
from passingsums.shares import block_sums, is_still, shares_of
from samples import check_calls, orders_of, random_book, random_order, shown

HOUSE = (3, ((1, 0, -2), (0, 5, 0), (0, 3, -3)))
PLAIN, PAIR, WHOLE = ((0,), (1,), (2,)), ((0,), (1, 2)), ((0, 1, 2),)


def seen_at(book, order, deed, stand):
    """Return what a reader adds up cell by cell of a deed that is done in noughts behind so many blocks."""
    seen = 0
    for place, block in enumerate(order):
        for cell in block:
            seen += book[1][deed][cell] if place >= stand else 0
    return seen


class Examples(unittest.TestCase):
    """The examples of the document, as they stand there."""

    def test_first_deed(self):
        found = (
            block_sums(HOUSE, PLAIN, 0), shares_of(HOUSE, PLAIN, 0),
            block_sums(HOUSE, PAIR, 0), shares_of(HOUSE, PAIR, 0),
        )
        self.assertEqual(shown(found), shown(((1, 0, -2), (-1, -2, -2, 0), (1, -2), (-1, -2, 0))))

    def test_second_deed(self):
        found = (
            shares_of(HOUSE, PLAIN, 1), shares_of(HOUSE, PAIR, 1),
            shares_of(HOUSE, ((1, 2), (0,)), 1), shares_of(HOUSE, WHOLE, 1),
        )
        self.assertEqual(shown(found), shown(((5, 5, 0, 0), (5, 5, 0), (5, 0, 0), (5, 0))))

    def test_third_deed(self):
        found = (
            shares_of(HOUSE, PLAIN, 2), shares_of(HOUSE, PAIR, 2), is_still(HOUSE, PLAIN, 2), is_still(HOUSE, PAIR, 2),
        )
        self.assertEqual(shown(found), shown(((0, 0, -3, 0), (0, 0, 0), False, True)))

    def test_three_are_lacking_if_the_cell_one_is_read_first(self):
        self.assertEqual(shares_of(HOUSE, ((1,), (0,), (2,)), 2), (0, -3, -3, 0))
        self.assertEqual(shares_of(HOUSE, ((2,), (0,), (1,)), 2), (0, 3, 3, 0))


class Shares(unittest.TestCase):
    def check(self, book, order):
        for deed in range(len(book[1])):
            shares = tuple(seen_at(book, order, deed, stand) for stand in range(len(order) + 1))
            sums = tuple(seen_at(book, (block,), deed, 0) for block in order)
            named = {"book": book, "order": order, "deed": deed}
            check_calls(self, shares, shares_of, **named)
            check_calls(self, sums, block_sums, **named)
            check_calls(self, shares.count(0) == len(shares), is_still, **named)
            self.assertEqual((shares[0], shares[-1]), (sum(book[1][deed]), 0))
            self.assertEqual(sums, tuple(share - later for share, later in zip(shares, shares[1:])))

    def test_all_orders_of_few_cells(self):
        random = Random(2)
        for many in range(1, 5):
            for order in orders_of(tuple(range(many))):
                self.check(random_book(random, many, 4, 3), order)

    def test_plain_orders(self):
        random = Random(3)
        for many in range(1, 9):
            for _ in range(5):
                book = random_book(random, many, 8, 99)
                self.check(book, plain_order(many))
                self.check(book, plain_order(many)[::-1])

    def test_one_block(self):
        random = Random(4)
        for many in range(1, 9):
            book = random_book(random, many, 8, 99)
            self.check(book, (tuple(range(many)),))
            for deed, row in enumerate(book[1]):
                check_calls(self, (sum(row), 0), shares_of, book=book, order=(tuple(range(many)),), deed=deed)

    def test_blocks(self):
        random = Random(5)
        for _ in range(200):
            many = random.randint(1, 8)
            self.check(random_book(random, many, random.randint(0, 8), 99), random_order(random, many))

    def test_least_and_greatest_items(self):
        for many in range(1, 9):
            rows = ((99,) * many, (-99,) * many, tuple((-1) ** cell * 99 for cell in range(many)))
            for order in (plain_order(many), (tuple(range(many)),), plain_order(many)[::-1]):
                self.check((many, rows), order)
        self.assertEqual(shares_of((8, ((99,) * 8,)), plain_order(8), 0), tuple(range(792, -1, -99)))


class Still(unittest.TestCase):
    def check(self, wanted, book, order, deed=0):
        check_calls(self, wanted, is_still, book=book, order=order, deed=deed)

    def test_noughts(self):
        for many in range(1, 9):
            for order in (plain_order(many), (tuple(range(many)),)):
                self.check(True, (many, ((0,) * many, (1,) * many)), order)
                self.check(False, (many, ((0,) * many, (1,) * many)), order, 1)

    def test_a_deed_that_hands_over(self):
        for order in orders_of((0, 1, 2, 3)):
            for given in range(4):
                for taken in range(4):
                    row = tuple((cell == taken) - (cell == given) for cell in range(4))
                    at_once = any(given in block and taken in block for block in order)
                    self.check(at_once, (4, (row,)), order)

    def test_several_hand_over_each_within_a_block(self):
        row = (1, -1, 7, 5, -12)
        self.check(True, (5, (row,)), ((0, 1), (2, 3, 4)))
        self.check(True, (5, (row,)), ((2, 3, 4), (0, 1)))
        self.check(False, (5, (row,)), ((0, 1), (2, 3), (4,)))
        self.check(False, (5, (row,)), ((0, 2), (1, 3, 4)))

    def test_a_whole_of_nought_is_not_enough(self):
        self.check(False, (2, ((1, -1),)), ((0,), (1,)))
        self.check(True, (2, ((1, -1),)), ((0, 1),))
        self.check(False, (1, ((1,),)), ((0,),))
        self.check(False, (1, ((-1,),)), ((0,),))


if __name__ == "__main__":
    unittest.main()
