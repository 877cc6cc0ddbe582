import unittest
from itertools import product
from random import Random

from passingsums.between import between_paper
from passingsums.books import plain_order
from passingsums.errors import Breaks, NoBreak
from passingsums.readers import back_steps, more_read, never_back, never_less
from samples import (
    books_of_kinds, check_calls, check_raises, orders_of, random_book, random_order, told_shares,
)

BOOK, PLAIN, PAIR = (3, ((2, -1, 3), (0, 5, 0))), ((0,), (1,), (2,)), ((0, 1), (2,))
HANDED = (3, ((-5, 5, 0),))


class Led:
    """A reader that is led block by block, as far as it is told."""

    def __init__(self, order):
        self.order, self.blocks, self.sum = order, 0, 0

    def go(self, blocks, cells):
        while self.blocks < blocks:
            self.sum += sum(cells[cell] for cell in self.order[self.blocks])
            self.blocks += 1


def led(book, order, begin, steps):
    """Lead two readers block by block, and do the deeds one by one; return what both read."""
    cells, first, second = list(begin), Led(order), Led(order)
    for ahead, behind, deed in steps + ((len(order), len(order), None),):
        first.go(ahead, cells)
        second.go(behind, cells)
        if deed is not None:
            cells = [held + item for held, item in zip(cells, book[1][deed])]
    return first.sum, second.sum


def all_places(blocks):
    """Return all pairs of how many blocks the first and the second reader have read."""
    return [(first, second) for first in range(blocks + 1) for second in range(first + 1)]


def random_steps(random, book, order, number):
    """Return steps of so many deeds: places that do not fall, in any way, often one behind the other."""
    blocks = len(order)
    ahead = sorted(random.randint(0, blocks) for _ in range(number))
    behind = sorted(random.randint(0, blocks) for _ in range(number))
    pairs = [(first, min(first, second)) for first, second in zip(ahead, behind)]
    return tuple((*pair, random.randrange(len(book[1]))) for pair in pairs)


def is_one_behind_the_other(steps, blocks):
    return all(second == 0 or first == blocks for first, second, _ in steps)


class Examples(unittest.TestCase):
    """The examples of the document, as they stand there."""

    def test_more_read(self):
        for wanted, order, steps in (
            (1, PLAIN, ((0, 0, 0), (2, 1, 0), (3, 1, 0), (3, 3, 1))), (-1, PLAIN, ((2, 1, 0),)),
            (9, PLAIN, ((3, 0, 0), (3, 1, 1))), (6, PAIR, ((1, 0, 0), (2, 0, 1))), (0, PLAIN, ()),
        ):
            check_calls(self, wanted, more_read, book=BOOK, order=order, steps=steps)

    def test_never(self):
        check_calls(self, False, never_less, book=BOOK, order=PLAIN)
        check_calls(self, True, never_back, book=BOOK, order=PLAIN)
        check_calls(self, True, never_less, book=BOOK, order=PAIR)
        check_calls(self, False, never_back, book=HANDED, order=PLAIN)
        check_calls(self, True, never_less, book=HANDED, order=PAIR)
        check_calls(self, True, never_less, book=(2, ()), order=((1,), (0,)))

    def test_steps(self):
        steps = back_steps(BOOK, PLAIN)
        self.assertLess(more_read(BOOK, PLAIN, steps), 0)
        self.assertEqual(len(steps), 1)
        check_raises(self, NoBreak, back_steps, book=BOOK, order=PAIR)

    def test_the_text_around(self):
        self.assertEqual(told_shares(BOOK, PLAIN)[0], [4, 2, 3, 0])
        self.assertEqual(told_shares(BOOK, PAIR), [[4, 3, 0], [5, 0, 0]])
        self.assertEqual(led(HANDED, PLAIN, (0, 0, 0), ((1, 0, 0),)), (5, 0))


class MoreRead(unittest.TestCase):
    def check(self, book, order, steps):
        """Check against two readers that are led, from noughts and from another begin."""
        for begin in ((0,) * book[0], tuple(range(-7, book[0] - 7)), (10 ** 9,) * book[0]):
            first, second = led(book, order, begin, steps)
            check_calls(self, second - first, more_read, book=book, order=order, steps=steps)
        return second - first

    def test_random_steps(self):
        random = Random(111)
        for number in (0, 1, 2, 5, 39, 40):
            for _ in range(40):
                many = random.randint(1, 8)
                book, order = random_book(random, many, random.randint(1, 8), 99), random_order(random, many)
                self.check(book, order, random_steps(random, book, order, number))

    def test_each_pair_of_places(self):
        random = Random(112)
        for many in range(1, 9):
            book, order = random_book(random, many, 2, 99), random_order(random, many)
            for first, second in all_places(len(order)):
                self.check(book, order, ((first, second, 1),))

    def test_no_steps_and_both_at_one_place(self):
        random = Random(113)
        for many in range(1, 9):
            book, order = random_book(random, many, 8, 99), random_order(random, many)
            self.assertEqual(self.check(book, order, ()), 0)
            self.assertEqual(self.check((many, ()), order, ()), 0)
            steps = tuple((at, at, deed) for at, deed in zip(range(len(order) + 1), range(8)))
            self.assertEqual(self.check(book, order, steps), 0)

    def test_three_readers(self):
        random = Random(114)
        for _ in range(100):
            many = random.randint(1, 6)
            book, order = random_book(random, many, 4, 99), random_order(random, many)
            places = [sorted(random.randint(0, len(order)) for _ in range(10)) for _ in range(3)]
            rows = [sorted(three, reverse=True) for three in zip(*places)]
            rows = [[max(row[at] for row in rows[:place + 1]) for at in range(3)] for place in range(len(rows))]
            deeds = [random.randrange(4) for _ in rows]
            pairs = [
                tuple((row[ahead], row[behind], deed) for row, deed in zip(rows, deeds))
                for ahead, behind in ((0, 1), (1, 2), (0, 2))
            ]
            found = [self.check(book, order, steps) for steps in pairs]
            self.assertEqual(found[0] + found[1], found[2])

    def test_the_greatest_items(self):
        book = (8, ((99,) * 8, (-99,) * 8))
        self.assertEqual(self.check(book, plain_order(8), ((8, 0, 0),) * 40), 40 * 792)
        self.assertEqual(self.check(book, plain_order(8), ((8, 0, 1),) * 40), -40 * 792)


class Never(unittest.TestCase):
    def check(self, book, order):
        """Check both words against all steps of one deed, and what is told of them."""
        named, steps = {"book": book, "order": order}, []
        for deed in range(len(book[1])):
            steps += [((*pair, deed),) for pair in all_places(len(order))]
        less = [one for one in steps if sum_more(book, order, one) < 0]
        back = [one for one in less if is_one_behind_the_other(one, len(order))]
        check_calls(self, not less, never_less, **named)
        check_calls(self, not back, never_back, **named)
        if less:
            found = back_steps(book, order)
            check_calls(self, found, back_steps, **named)
            self.assertIn(found, less)
        else:
            check_raises(self, NoBreak, back_steps, **named)
        self.check_what_holds(book, order, not less, not back)
        return not less, not back

    def check_what_holds(self, book, order, less, back):
        self.assertTrue(back or not less)
        if len(order) == 1:
            wanted = all(sum(row) >= 0 for row in book[1])
            self.assertEqual((less, back), (wanted, wanted))
        try:
            paper = between_paper(book, order)
        except Breaks:
            paper = None
        self.assertEqual(back, paper in (("one sign", 1), ("one sign", 0)))

    def test_books_of_all_kinds(self):
        random, found = Random(115), []
        for many in range(1, 9):
            for order in (plain_order(many), (tuple(range(many)),), *[random_order(random, many) for _ in range(3)]):
                for book in books_of_kinds(random, order, random.randint(2, 8)) + [inner_book(random, order)]:
                    found.append(self.check(book, order))
        for kind in ((True, True), (False, True), (False, False)):
            self.assertGreater(found.count(kind), 10, kind)

    def test_steps_of_two_deeds(self):
        random = Random(116)
        for order in orders_of((0, 1, 2)):
            for _ in range(8):
                book = random_book(random, 3, random.randint(1, 2), 2)
                less, back = self.check(book, order)
                single = [(*pair, deed) for pair in all_places(len(order)) for deed in range(len(book[1]))]
                double = [
                    (first, second) for first, second in product(single, repeat=2)
                    if first[0] <= second[0] and first[1] <= second[1]
                ]
                worse = [steps for steps in double if sum_more(book, order, steps) < 0]
                self.assertEqual(less, not worse)
                self.assertEqual(back, not any(is_one_behind_the_other(steps, len(order)) for steps in worse))

    def test_all_small_books(self):
        for row in product((-2, -1, 0, 1, 2), repeat=3):
            for order in orders_of((0, 1, 2)):
                self.check((3, (row,)), order)
                self.check((3, ((1, 1, 1), row)), order)

    def test_no_rows_and_still_rows(self):
        for many in range(1, 9):
            for order in (plain_order(many), plain_order(many)[::-1], (tuple(range(many)),)):
                self.assertEqual(self.check((many, ()), order), (True, True))
                self.assertEqual(self.check((many, ((0,) * many,) * 8), order), (True, True))

    def test_one_item_below_nought_in_the_last_row(self):
        for many in range(1, 9):
            for cell in range(many):
                row = tuple(-1 if at == cell else 2 for at in range(many))
                book = (many, ((1,) * many,) * 7 + (row,))
                self.assertFalse(self.check(book, plain_order(many))[0])
                self.assertEqual(self.check(book, (tuple(range(many)),))[0], many > 1)

    def test_blocks_joined_and_deeds_left_out(self):
        random = Random(117)
        for _ in range(60):
            many = random.randint(2, 6)
            order = random_order(random, many)
            for book in books_of_kinds(random, order, 4):
                less, back = never_less(book, order), never_back(book, order)
                for at in range(len(order) - 1):
                    joined = order[:at] + (tuple(sorted(order[at] + order[at + 1])),) + order[at + 2:]
                    self.assertGreaterEqual((never_less(book, joined), never_back(book, joined)), (less, False))
                    self.assertTrue(never_back(book, joined) or not back)
                for deed in range(len(book[1])):
                    fewer = (many, book[1][:deed] + book[1][deed + 1:])
                    self.assertTrue(never_less(fewer, order) or not less)
                    self.assertTrue(never_back(fewer, order) or not back)


def inner_book(random, order):
    """Return a book of which each share lies between nothing and the whole, which is not below nothing."""
    many, rows = sum(len(block) for block in order), []
    for _ in range(random.randint(1, 8)):
        whole, row = random.randint(0, 9), [0] * many
        shares = [whole] + [random.randint(0, whole) for _ in order[1:]] + [0]
        for block, share, later in zip(order, shares, shares[1:]):
            row[random.choice(block)] = share - later
        rows.append(tuple(row))
    return many, tuple(rows)


def sum_more(book, order, steps):
    first, second = led(book, order, (0,) * book[0], steps)
    return second - first


if __name__ == "__main__":
    unittest.main()
