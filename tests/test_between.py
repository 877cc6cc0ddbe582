import unittest
from fractions import Fraction
from itertools import product
from random import Random

from passingsums.between import between_holds, between_paper, breaks_between
from passingsums.books import book_error, plain_order
from passingsums.breaks import two_runs
from passingsums.errors import NoBreak
from passingsums.weavings import weaving_error
from samples import (
    all_weavings, books_of_kinds, changed_values, check_breaks, check_calls, odd_values, orders_of, random_book,
    random_order, random_weaving, shown, strode, told_paper, told_shares, walked,
)

TWO, PLAIN = ((0,), (1,)), ((0,), (1,), (2,))
LOT, LINE = (3, ((1, -1, 1), (0, 0, 1))), (2, ((1, 2), (-2, -4), (3, 6)))
APART, THIRDS = (2, ((1, 0), (0, -1))), (2, ((2, 1), (-1, -1)))
MOST = 10 ** 6


def breaks(book, order, weaving):
    read, totals = strode(book, order, weaving)
    return not min(totals) <= read <= max(totals)


class Examples(unittest.TestCase):
    """The examples of the document, as they stand there."""

    def test_papers(self):
        for wanted, book, order in (
            (("one sign", 1), LOT, PLAIN),
            (("one row", ((1, 1), (2, 3), (0, 1))), LINE, TWO),
            (("one sign", -1), (2, ((-1, 0), (0, 0))), TWO),
            (("one sign", 0), (2, ()), TWO),
            (("one sign", 0), (2, ((1, -1),)), ((0, 1),)),
            (("one row", ((1, 1), (0, 1))), (3, ((1, -1, 0), (0, 0, 2), (1, 0, -3))), ((0, 1, 2),)),
        ):
            check_calls(self, wanted, between_paper, book=book, order=order)

    def test_holds(self):
        for wanted, book, order, value in (
            (True, LINE, TWO, ("one row", ((1, 1), (2, 3), (0, 1)))),
            (False, LINE, TWO, ("one row", ((1, 1), (4, 6), (0, 1)))),
            (False, LOT, PLAIN, ("one sign", True)),
        ):
            check_calls(self, wanted, between_holds, book=book, order=order, value=value)

    def test_breaks(self):
        values = ((1, 0, 1), (1, 1, 1)), ((1, 1, 1), (1, 0, 1)), ((1, 0, 1),), ((2, 0, 1),), None
        for wanted, value in zip((True, False, False, False, False), values):
            check_calls(self, wanted, breaks_between, book=APART, order=TWO, value=value)
        check_calls(self, True, breaks_between, book=(2, ((1, -1),)), order=TWO, value=((1, 0, 1),))
        check_calls(self, True, breaks_between, book=LOT, order=((1,), (0,), (2,)), value=((1, 0, 1),))

    def test_no_paper(self):
        weaving = check_breaks(self, between_paper, book=(2, ((1, -1),)), order=TWO)
        self.assertTrue(breaks((2, ((1, -1),)), TWO, weaving))

    def test_the_text_around(self):
        self.assertEqual(told_shares(LOT, PLAIN)[0], [1, 0, 1, 0])
        self.assertEqual(told_shares(LOT, ((1,), (0,), (2,)))[0][1], 2)
        self.assertEqual(walked(APART, TWO, (0, 0), ((1, 0, 1), (1, 1, 1))), (-1, [0, 1, 0]))
        self.assertEqual(walked(APART, TWO, (0, 0), ((1, 1, 1), (1, 0, 1))), (-1, [0, -1, 0]))
        self.assertEqual(walked((2, ((1, -1),)), TWO, (0, 0), ((1, 0, 1),)), (-1, [0, 0]))


class Papers(unittest.TestCase):
    def check(self, book, order):
        """Check the paper against the rule told a second time; where there is none, the weaving breaks the book."""
        self.assertIsNone(book_error(book))
        named, wanted = {"book": book, "order": order}, told_paper(book, order)
        if wanted is None:
            weaving = check_breaks(self, between_paper, **named)
            self.assertIsNone(weaving_error(book, order, weaving), (named, weaving))
            self.assertTrue(breaks(book, order, weaving), (named, weaving))
            self.assertIs(breaks_between(book, order, weaving), True)
            self.assertIs(between_holds(book, order, None), False)
            for value in (("one sign", 0), ("one sign", 1), ("one sign", -1), weaving):
                self.assertIs(between_holds(book, order, value), False, (named, value))
            two_runs(book, order)
        else:
            check_calls(self, wanted, between_paper, **named)
            check_calls(self, True, between_holds, **named, value=wanted)
            with self.assertRaises(NoBreak):
                two_runs(book, order)
        return wanted

    def test_books_of_all_kinds(self):
        random, found = Random(51), []
        for many in range(1, 9):
            whole = (tuple(range(many)),)
            for order in (plain_order(many), whole, *[random_order(random, many) for _ in range(4)]):
                for book in books_of_kinds(random, order, random.randint(2, 8)):
                    paper = self.check(book, order)
                    found.append(paper and paper[0])
        for word in ("one sign", "one row", None):
            self.assertGreater(found.count(word), 40)

    def test_random_books(self):
        random = Random(52)
        for _ in range(400):
            many, bound = random.randint(1, 8), random.choice((1, 2, 9, 99))
            self.check(random_book(random, many, random.randint(0, 8), bound), random_order(random, many))

    def test_small_books_break_exactly_if_a_weaving_of_few_deeds_breaks_them(self):
        rows = list(product((-1, 0, 1), repeat=2))
        weavings = list(all_weavings(2, 2, 5))
        for book in product(rows, repeat=2):
            paper = self.check((2, book), TWO)
            self.assertEqual(paper is None, any(breaks((2, book), TWO, weaving) for weaving in weavings), book)

    def test_small_books_of_three_cells(self):
        random = Random(53)
        for order in orders_of((0, 1, 2)):
            for _ in range(15):
                book = random_book(random, 3, 2, 1)
                paper = self.check(book, order)
                found = any(breaks(book, order, weaving) for weaving in all_weavings(len(order), 2, 4))
                self.assertEqual(paper is None, found, (book, order))

    def test_orders_in_which_the_part_rises_or_stays(self):
        for row, times in (((2, -1, 3), -1), ((4, -1, 2), -2), ((0, 5, 0), -3), ((9, 0, 1), -1)):
            rows = row, tuple(times * item for item in row)
            for order in orders_of((0, 1, 2)):
                self.check((3, rows), order)

    def test_a_deed_that_shows_more_than_its_whole_or_less_than_nothing(self):
        for row in ((1, -1, 1), (-1, 2, 0), (2, -1, 0), (-1, 0, 2), (0, 1, -1)):
            for sign in (1, -1):
                for order in orders_of((0, 1, 2)):
                    self.check((3, (tuple(sign * item for item in row), (0, 0, 0))), order)
                    self.check((3, (tuple(sign * item for item in row), (sign, 0, 0))), order)

    def test_a_still_deed_beside_one_row(self):
        order = ((0, 1), (2,))
        for still, wanted in (((5, -5, 0), True), ((0, 0, 0), True), ((5, 0, -5), False), ((0, -1, 1), False)):
            book = (3, ((1, 1, 1), (-2, -2, -2), still))
            self.assertEqual(self.check(book, order) is not None, wanted)

    def test_items_to_ninety_nine(self):
        whole, less = (99,) * 8, (-99,) * 7 + (-98,)
        order = plain_order(8)
        parts = tuple((part.numerator, part.denominator) for part in [Fraction(8 - k, 8) for k in range(9)])
        self.assertEqual(self.check((8, (whole, tuple(-item for item in whole))), order), ("one row", parts))
        self.assertEqual(self.check((8, (whole,) * 8), order), ("one sign", 1))
        self.assertEqual(self.check((8, (less,) * 8), order), ("one sign", -1))
        self.assertIsNone(self.check((8, (whole, less)), order))
        self.assertIsNone(self.check((8, (less, whole)), order))

    def test_one_block_always_has_a_paper(self):
        random = Random(54)
        for many in range(1, 9):
            for _ in range(10):
                book = random_book(random, many, random.randint(0, 8), 99)
                self.assertIsNotNone(self.check(book, (tuple(range(many)),)))


class BetweenHolds(unittest.TestCase):
    def check(self, wanted, book, order, *values):
        for value in values:
            check_calls(self, wanted, between_holds, book=book, order=order, value=value)

    def test_the_paper_with_one_thing_changed(self):
        for book, order in (
            (LOT, PLAIN), (LINE, TWO), ((2, ((-1, 0),)), TWO), ((2, ()), TWO), ((1, ((3,), (-1,))), ((0,),)),
            ((4, ((1, 2, 3, 4), (-9, -18, -27, -36))), ((3,), (0, 1), (2,))), ((3, ((0, 4, 0), (0, -1, 0))), PLAIN),
        ):
            paper = between_paper(book, order)
            self.check(True, book, order, paper)
            for value in changed_values(paper):
                if shown(value) != shown(paper):
                    self.check(False, book, order, value)

    def test_fractions_that_are_told_otherwise(self):
        for parts in (
            ((1, 1), (4, 6), (0, 1)), ((1, 1), (-2, -3), (0, 1)), ((2, 2), (2, 3), (0, 1)), ((1, 1), (2, 3), (0, 2)),
            ((1, 1), (2, 3), (0, -1)), ((-1, -1), (2, 3), (0, 1)), ((True, 1), (2, 3), (0, 1)),
            ((1, 1), (2, 3), (0, True)), ((1, 1), (2, 3), (False, 1)), ((1, 1), (2, 3)),
            ((1, 1), (2, 3), (0, 1), (0, 1)), ((1, 1), (1, 1), (2, 3), (0, 1)),
            ((1, 1), (1, 3), (0, 1)), ((0, 1), (2, 3), (1, 1)), [(1, 1), (2, 3), (0, 1)], ((1, 1), [2, 3], (0, 1)),
            ((1, 1), "2/3", (0, 1)), (1, (2, 3), 0), (), None, ((1, 1), (2 * 10 ** 300, 3 * 10 ** 300), (0, 1)),
        ):
            self.check(False, LINE, TWO, ("one row", parts), ("one sign", parts), (parts, "one row"), parts)

    def test_signs(self):
        books = {1: LOT, -1: (3, ((-1, 1, -1),)), 0: (3, ())}
        for sign, book in books.items():
            for told in (-2, -1, 0, 1, 2, 10 ** 399):
                self.check(told == sign, book, PLAIN, ("one sign", told))
            self.check(False, book, PLAIN, ("one sign", True), ("one sign", False), ("one sign", None), ("one sign",))
            self.check(False, book, PLAIN, ["one sign", sign], ("one row", sign), (sign, "one sign"))
            self.check(False, book, PLAIN, ("one sign", sign, sign))

    def test_papers_of_other_books(self):
        random, kept = Random(55), []
        for _ in range(60):
            order = random_order(random, 3)
            for book in books_of_kinds(random, order, 3):
                paper = told_paper(book, order)
                for other in kept[-6:]:
                    self.assertIs(between_holds(book, order, other), other == paper)
                kept += [paper] if paper else []

    def test_values_of_other_kinds(self):
        for book, order in ((LOT, PLAIN), (LINE, TWO), ((2, ((1, -1),)), TWO), ((2, ()), TWO)):
            self.check(False, book, order, *odd_values(), book, order)
            self.check(False, book, order, ("one sign", ()), ("one row", ()), {"one sign": 1})


class BreaksBetween(unittest.TestCase):
    def check(self, wanted, book, order, *values):
        for value in values:
            check_calls(self, wanted, breaks_between, book=book, order=order, value=value)

    def test_as_each_deed_by_itself_tells_it(self):
        random, found = Random(56), []
        for _ in range(500):
            many = random.randint(1, 6)
            book, order = random_book(random, many, random.randint(0, 5), 4), random_order(random, many)
            weaving = random_weaving(random, book, order, 4, 4)
            read, totals = walked(book, order, (0,) * many, weaving)
            wanted = not min(totals) <= read <= max(totals)
            self.check(wanted, book, order, weaving)
            found.append(wanted)
        self.assertGreater(min(found.count(True), found.count(False)), 50)

    def test_great_times_and_a_hundred_runs(self):
        random, found = Random(57), []
        for times in (2, 1000, MOST):
            for number in (1, 2, 100):
                for _ in range(20):
                    many = random.randint(2, 8)
                    book, order = random_book(random, many, 8, 99), plain_order(many)
                    stands = sorted(random.randint(1, many - 1) for _ in range(number))
                    weaving = tuple((stand, random.randrange(8), random.randint(times // 2, times)) for stand in stands)
                    found.append(breaks(book, order, weaving))
                    self.check(found[-1], book, order, weaving)
        self.assertGreater(min(found.count(True), found.count(False)), 20)

    def test_just_beyond_and_just_at_the_totals(self):
        # Of the deed 0 a third is seen, of the deed 1 a half.
        for first in range(1, 12):
            for second in range(1, 24):
                wanted = first < second < 2 * first
                self.check(wanted, THIRDS, TWO, ((1, 0, first), (1, 1, second)))
                wanted = first < second < 2 * first
                mirrored = (2, ((-2, -1), (1, 1)))
                self.check(wanted, mirrored, TWO, ((1, 0, first), (1, 1, second)))
        self.check(True, THIRDS, TWO, ((1, 0, MOST - 1), (1, 1, MOST)))
        self.check(False, THIRDS, TWO, ((1, 0, MOST), (1, 1, MOST)), ((1, 0, 500000), (1, 1, MOST)))

    def test_the_totals_amid_count(self):
        # Up to 3 and back to 0: 2 is read, amid them.
        book = (2, ((1, 2), (-1, -2), (0, 1)))
        self.check(False, book, TWO, ((1, 0, 1), (1, 1, 1)))
        self.check(False, (2, ((0, 3), (-3, 0))), TWO, ((1, 0, 1), (1, 1, 1)))
        self.check(True, (2, ((0, 3), (-3, 0))), TWO, ((1, 1, 1), (1, 0, 1)))

    def test_the_empty_weaving(self):
        for book, order in ((LOT, PLAIN), (APART, TWO), ((2, ()), TWO), ((1, ((5,),)), ((0,),))):
            self.check(False, book, order, ())

    def test_values_that_are_no_weaving(self):
        good = ((1, 0, 1), (1, 1, 1))
        self.check(True, APART, TWO, good)
        self.check(
            False, APART, TWO, list(good), (good[0], list(good[1])), good + (None,), good + ((1, 2, 1),), (good,),
            ((True, 0, 1), good[1]), ((1, False, 1), good[1]), (good[0], (1, True, 1)), (good[0], (1, 1, True)),
            ((0, 0, 1), good[1]), (good[0], (2, 1, 1)), (good[0], (1, -1, 1)), (good[0], (1, 1, 0)),
            good + ((1, 0, 0),), (good[0], (1, 1, MOST + 1)), good * 51, good + ((2, 0, 1),), {1: good}, good[0],
        )
        self.check(True, APART, TWO, good * 50)
        self.check(False, (3, APART[1]), ((0, 1),), good)
        self.check(False, APART, ((0, 1),), good)

    def test_values_of_other_kinds(self):
        for book, order in ((APART, TWO), ((2, ((1, -1),)), TWO), (LOT, PLAIN)):
            self.check(False, book, order, *odd_values(), book, order, ("one sign", 1))


if __name__ == "__main__":
    unittest.main()
