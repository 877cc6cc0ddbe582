import unittest
from itertools import product
from random import Random

from passingsums.between import between_paper
from passingsums.books import plain_order
from passingsums.errors import Breaks
from passingsums.met import breaks_met, met_holds, met_paper
from passingsums.weavings import weaving_error
from samples import (
    all_weavings, books_of_kinds, changed_values, check_breaks, check_calls, handed_over, odd_values, orders_of,
    random_book, random_order, random_weaving, shown, strode, told_shares, totals_met, walked,
)

PLAIN, PAIR, WHOLE = ((0,), (1,), (2,)), ((0, 1), (2,)), ((0, 1, 2),)
ALIKE, AMID = (3, ((4, 0, 0), (0, 4, 0), (0, 0, 4))), (3, ((0, 4, 0), (0, -7, 0)))
APART, ONCE = (3, ((4, 0, 0), (0, 7, 0))), (3, ((0, 4, 0),))
MOST = 10 ** 6


def told_papers(book, order):
    """Tell all papers by their rules in another way, those of one amount first."""
    shares = told_shares(book, order)
    wholes = {row[0] for row in shares if row[0]}
    found = []
    if len(wholes) < 2 and all(share in (0, row[0]) for row in shares for share in row):
        found.append(("one amount", sum(wholes)))
    for place, block in enumerate(order):
        apart = [[cell for cell in other if cell not in block] for other in order]
        if all(sum(row[cell] for cell in cells) == 0 for row in book[1] for cells in apart):
            found.append(("one block", place))
    return found


def misses(book, order, weaving):
    """Tell whether what is read in noughts is none of the totals met, also amid the runs."""
    read, _ = strode(book, order, weaving)
    return not any(read in met for met in totals_met(book, (0,), weaving))


class Examples(unittest.TestCase):
    """The examples of the document, as they stand there."""

    def test_papers(self):
        for wanted, book, order in (
            (("one amount", 4), ALIKE, PLAIN),
            (("one block", 1), AMID, PLAIN),
            (("one block", 0), APART, PAIR),
            (("one amount", 0), (3, ((-5, 5, 0),)), PAIR),
            (("one amount", 0), (3, ()), PLAIN),
        ):
            check_calls(self, wanted, met_paper, book=book, order=order)

    def test_breaks(self):
        values = ((1, 0, 1), (1, 1, 1)), ((1, 1, 1), (1, 0, 1)), ((1, 0, 7), (1, 1, 4)), ((2, 1, 1),), ()
        for wanted, value in zip((True, False, False, False, False), values):
            check_calls(self, wanted, breaks_met, book=APART, order=PLAIN, value=value)

    def test_more_breaks(self):
        check_calls(self, True, breaks_met, book=(3, ((-5, 5, 0),)), order=PLAIN, value=((1, 0, 1),))
        check_calls(self, False, breaks_met, book=APART, order=PLAIN, value=[(1, 0, 1), (1, 1, 1)])
        check_calls(self, False, breaks_met, book=APART, order=PLAIN, value=((1, 0, 1), (1, 2, 1)))

    def test_holds(self):
        values = ("one amount", 4), ("one amount", 5), ("one block", 0), ["one amount", 4], ("one amount", True)
        for wanted, value in zip((True, False, False, False, False), values):
            check_calls(self, wanted, met_holds, book=ALIKE, order=PLAIN, value=value)

    def test_both_kinds(self):
        check_calls(self, ("one amount", 4), met_paper, book=ONCE, order=PLAIN)
        check_calls(self, True, met_holds, book=ONCE, order=PLAIN, value=("one block", 1))
        check_calls(self, False, met_holds, book=ONCE, order=PLAIN, value=("one block", 2))
        check_calls(self, False, met_holds, book=ONCE, order=PLAIN, value=("one amount", 0))

    def test_the_text_around(self):
        begin = (0, 0, 0)
        self.assertEqual(walked(APART, PLAIN, begin, ((1, 0, 1), (1, 1, 1))), (7, [0, 4, 11]))
        self.assertEqual(walked(APART, PLAIN, begin, ((1, 1, 1), (1, 0, 1))), (7, [0, 7, 11]))
        read, totals = walked(APART, PLAIN, begin, ((1, 0, 7), (1, 1, 4)))
        self.assertEqual((read, totals[7]), (28, 28))
        self.assertEqual(walked((3, ((-5, 5, 0),)), PLAIN, begin, ((1, 0, 1),)), (5, [0, 0]))
        check_breaks(self, met_paper, book=(3, ((1, 0, 0), (0, 5, 0))), order=PLAIN)


class Papers(unittest.TestCase):
    def check(self, book, order):
        """Check the paper against the rules told a second time; where there is none, two deeds miss all totals."""
        named, papers = {"book": book, "order": order}, told_papers(book, order)
        for value in [("one amount", amount) for amount in range(-9, 10)] + [("one block", at) for at in range(-1, 9)]:
            self.assertIs(met_holds(book, order, value), value in papers, (named, value))
        for value in papers:
            check_calls(self, True, met_holds, **named, value=value)
        if papers:
            check_calls(self, papers[0], met_paper, **named)
            return papers
        weaving = check_breaks(self, met_paper, **named)
        self.assertIsNone(weaving_error(book, order, weaving), (named, weaving))
        self.assertIn(sum(times for _, _, times in weaving), (1, 2))
        read, totals = walked(book, order, (0,) * book[0], weaving)
        self.assertNotIn(read, totals, (named, weaving))
        self.assertIs(breaks_met(book, order, weaving), True)
        return papers

    def test_books_of_all_kinds(self):
        random, found = Random(61), []
        for many in range(1, 9):
            for order in (plain_order(many), (tuple(range(many)),), *[random_order(random, many) for _ in range(4)]):
                for book in books_of_kinds(random, order, random.randint(2, 8)) + whole_or_nothing(random, order):
                    found.append(len(self.check(book, order)))
        self.assertGreater(min(found.count(0), found.count(1), len(found) - found.count(0) - found.count(1)), 40)

    def test_all_small_books_of_two_deeds(self):
        rows = list(product((-2, -1, 0, 1, 2), repeat=2))
        weavings = list(all_weavings(2, 2, 2))
        for book in product(rows, repeat=2):
            papers = self.check((2, book), ((0,), (1,)))
            found = any(misses((2, book), ((0,), (1,)), weaving) for weaving in weavings)
            self.assertEqual(not papers, found, book)

    def test_no_weaving_misses_where_there_is_a_paper(self):
        random = Random(62)
        for order in orders_of((0, 1, 2)):
            weavings = list(all_weavings(len(order), 3, 4))
            for book in whole_or_nothing(random, order):
                if len(book[1]) == 3 and self.check(book, order):
                    for weaving in weavings:
                        self.assertIs(breaks_met(book, order, weaving), False)
                        self.assertFalse(misses(book, order, weaving))

    def test_unlike_amounts(self):
        # Seen or not at each stand: at one stand, at one and a later one, or all in one block.
        for first, second in product(((4, 0, 0), (0, 4, 0), (0, 0, 4)), ((7, 0, 0), (0, 7, 0), (0, 0, 7))):
            for order in orders_of((0, 1, 2)):
                for rows in ((first, second), (second, first), (first, second, (0, 0, 0)), (first, first, second)):
                    self.check((3, rows), order)
                    self.check((3, tuple(tuple(-item for item in row) for row in rows)), order)

    def test_amounts_of_unlike_signs(self):
        for first, second in product(((4, 0, 0), (0, 4, 0), (0, 0, 4)), ((-4, 0, 0), (0, -4, 0), (0, 0, -4))):
            for order in orders_of((0, 1, 2)):
                self.check((3, (first, second)), order)
                self.check((3, (second, first, first)), order)

    def test_three_amounts_at_two_stands(self):
        rows = list(product((0, 1), repeat=3))
        for places in product(range(3), repeat=3):
            rows_of_three = [[0] * place + [amount] + [0] * (2 - place) for amount, place in zip((1, 2, 3), places)]
            self.check((3, tuple(tuple(row) for row in rows_of_three)), PLAIN)
        for row in rows:
            self.check((3, (row, (1, 1, 0))), PLAIN)
            self.check((3, (row, (1, 1, 0))), PAIR)

    def test_deeds_that_are_seen_again(self):
        # All or nothing is seen at each stand, in any way: not only all up to one stand, and nothing behind.
        random = Random(68)
        for _ in range(300):
            many, rows = random.randint(2, 5), []
            for _ in range(random.randint(1, 4)):
                amount = random.choice((1, 2, 2, -2, 0))
                shares = [amount] + [random.choice((0, amount)) for _ in range(many - 1)] + [0]
                rows.append(tuple(share - later for share, later in zip(shares, shares[1:])))
            self.check((many, tuple(rows)), plain_order(many))

    def test_one_block_always_has_a_paper(self):
        random = Random(63)
        for many in range(1, 9):
            for _ in range(10):
                book = random_book(random, many, random.randint(0, 8), 99)
                self.assertTrue(self.check(book, (tuple(range(many)),)))

    def test_blocks_joined_and_deeds_left_out(self):
        random = Random(64)
        for _ in range(60):
            many = random.randint(2, 6)
            order = random_order(random, many)
            for book in whole_or_nothing(random, order):
                if told_papers(book, order):
                    for at in range(len(order) - 1):
                        joined = order[:at] + (tuple(sorted(order[at] + order[at + 1])),) + order[at + 2:]
                        met_paper(book, joined)
                    for deed in range(len(book[1])):
                        met_paper((many, book[1][:deed] + book[1][deed + 1:]), order)

    def test_a_paper_of_the_other_kind(self):
        # With wholes of one sign, or in one block, what is read also lies between the totals met.
        random = Random(65)
        for _ in range(60):
            order = random_order(random, random.randint(1, 6))
            for book in whole_or_nothing(random, order):
                papers = told_papers(book, order)
                wholes = [sum(row) for row in book[1]]
                if papers and (papers[-1][0] == "one block" or min(wholes, default=0) * max(wholes, default=0) >= 0):
                    self.assertIn(between_paper(book, order)[0], ("one sign", "one row"))

    def test_between_is_not_enough(self):
        book = (2, ((1, 0), (0, 5)))
        self.assertEqual(between_paper(book, ((0,), (1,))), ("one sign", 1))
        with self.assertRaises(Breaks):
            met_paper(book, ((0,), (1,)))


def whole_or_nothing(random, order):
    """Return books whose deeds are, mostly, seen whole or not at all: of one amount, of unlike ones, in one block."""
    many, found = sum(len(block) for block in order), []
    place = random.randrange(len(order))
    for amounts in ((5,), (5, 0), (-3,), (0,), (5, -5), (1, 2, 3), (99, 98), (4, 4, 4, -4)):
        for number in (0, 1, 3, 8):
            spread, amid = [], []
            for _ in range(number):
                amount = random.choice(amounts)
                spread.append(put(random, order, random.randrange(len(order)), amount))
                amid.append(put(random, order, place, amount))
            off = amid[:-1] + [spread[-1]] if number else []
            found += [(many, tuple(rows)) for rows in (spread, amid, off)]
    return found


def put(random, order, place, amount):
    """Return a row with this amount in one block, and a sum of 0 in all other ones."""
    row = list(handed_over(random, order, random.choice((0, 0, 40))))
    cell = random.choice(order[place])
    row[cell] += amount if abs(row[cell] + amount) <= 99 else 0
    return tuple(row)


class MetHolds(unittest.TestCase):
    def check(self, wanted, book, order, *values):
        for value in values:
            check_calls(self, wanted, met_holds, book=book, order=order, value=value)

    def test_the_paper_with_one_thing_changed(self):
        for book, order in (
            (ALIKE, PLAIN), (AMID, PLAIN), (APART, PAIR), (ONCE, PLAIN), ((3, ()), PLAIN), ((3, ((1, 0, 0),)), PLAIN),
            ((3, ((0, 2, 0), (0, 1, 0))), PLAIN), ((1, ((1,), (2,))), ((0,),)),
        ):
            papers = told_papers(book, order)
            for paper in papers:
                self.check(True, book, order, paper)
                wanted = [shown(other) for other in papers]
                for value in changed_values(paper):
                    self.check(shown(value) in wanted, book, order, value)

    def test_both_kinds_of_paper(self):
        book = (4, ((0, 3, 0, 0), (0, 0, 3, 0), (0, 3, 0, 0)))
        self.check(True, book, ((0,), (1, 2), (3,)), ("one amount", 3), ("one block", 1))
        self.check(False, book, ((0,), (1, 2), (3,)), ("one amount", 0), *[("one block", at) for at in (-1, 0, 2, 3)])
        self.check(True, book, plain_order(4), ("one amount", 3))
        self.check(False, book, plain_order(4), *[("one block", at) for at in range(-4, 5)])

    def test_each_block_of_a_book_that_changes_nothing(self):
        for book in ((3, ()), (3, ((0, 0, 0),) * 8)):
            self.check(True, book, PLAIN, ("one amount", 0), *[("one block", at) for at in range(3)])
            self.check(False, book, PLAIN, ("one amount", 1), ("one amount", -1), ("one amount", 10 ** 399))
            self.check(False, book, PLAIN, *[("one block", at) for at in (-1, 3, -3, 10 ** 399)])
            self.check(False, book, PLAIN, ("one amount", False), ("one block", False), ("one block", True))

    def test_a_book_of_ones(self):
        book = (2, ((0, 1), (0, 1)))
        self.check(True, book, ((0,), (1,)), ("one amount", 1), ("one block", 1))
        self.check(False, book, ((0,), (1,)), ("one amount", True), ("one block", True), ("one block", 0))

    def test_values_of_other_kinds(self):
        for book, order in ((ALIKE, PLAIN), (AMID, PLAIN), ((3, ()), PLAIN), ((3, ((1, 2, 3),)), PLAIN)):
            self.check(False, book, order, *odd_values(), book, order, ("one amount", ()), ("one block", (0,)))
            self.check(False, book, order, ("one amount", None), ("one block", None), ("one block", "0"))
            self.check(False, book, order, ("one sign", 1), {"one block": 1})
            self.check(False, book, order, ("one amount",), ("one block", 0, 0), (4, "one amount"), ["one block", 0])


class BreaksMet(unittest.TestCase):
    def check(self, wanted, book, order, *values):
        for value in values:
            check_calls(self, wanted, breaks_met, book=book, order=order, value=value)

    def test_as_each_deed_by_itself_tells_it(self):
        random, found = Random(66), []
        for _ in range(500):
            many = random.randint(1, 6)
            book, order = random_book(random, many, random.randint(0, 5), 4), random_order(random, many)
            weaving = random_weaving(random, book, order, 4, 4)
            for begin in ((0,) * many, (10 ** 9,) * many, tuple(random.randint(-9, 9) for _ in range(many))):
                read, totals = walked(book, order, begin, weaving)
                self.check(read not in totals, book, order, weaving)
            found.append(read not in totals)
        self.assertGreater(min(found.count(True), found.count(False)), 50)

    def test_totals_met_amid_a_run(self):
        # The first run goes by fours, the second one, which is read, by sevens.
        for first in range(1, 30):
            for second in range(1, 20):
                met = {4 * times for times in range(first + 1)} | {4 * first + 7 * times for times in range(second + 1)}
                self.check(7 * second not in met, APART, PLAIN, ((1, 0, first), (1, 1, second)))

    def test_great_times_and_a_hundred_runs(self):
        random, found = Random(67), []
        for times in (2, 1000, MOST):
            for number in (1, 2, 100):
                for _ in range(20):
                    many = random.randint(2, 8)
                    order = plain_order(many)
                    books = [book for book in whole_or_nothing(random, order) if book[1]]
                    book = random.choice((random.choice(books), random_book(random, many, 8, 9)))
                    stands = sorted(random.randint(1, many - 1) for _ in range(number))
                    weaving = tuple(
                        (stand, random.randrange(len(book[1])), random.randint(times // 2, times)) for stand in stands)
                    found.append(misses(book, order, weaving))
                    self.check(found[-1], book, order, weaving)
        self.assertGreater(min(found.count(True), found.count(False)), 20)

    def test_far_along_a_run(self):
        # 4 times 7 * k is met, as the first run goes by fours; one more or less is not.
        self.check(False, APART, PLAIN, ((1, 0, MOST), (1, 1, 400000)), ((1, 0, MOST), (1, 1, 571428)))
        self.check(True, APART, PLAIN, ((1, 0, MOST), (1, 1, 400001)), ((1, 0, MOST), (1, 1, 571432)))

    def test_one_block(self):
        for book in (APART, (3, ((1, -1, 0),)), (3, ())):
            self.check(False, book, WHOLE, (), ((1, 0, 1),), ((0, 0, 1),))

    def test_values_that_are_no_weaving(self):
        good = ((1, 0, 1), (1, 1, 1))
        self.check(True, APART, PLAIN, good)
        self.check(
            False, APART, PLAIN, (), list(good), (good[0], list(good[1])), good + (None,), good + ((1, 2, 1),), (good,),
            ((True, 0, 1), good[1]), ((1, False, 1), good[1]), (good[0], (1, True, 1)), (good[0], (1, 1, True)),
            ((0, 0, 1), good[1]), (good[0], (3, 1, 1)), (good[0], (1, -1, 1)), (good[0], (1, 1, 0)),
            good + ((1, 0, 0),), (good[0], (1, 1, MOST + 1)), good * 51, good[0], {1: good},
        )

    def test_values_of_other_kinds(self):
        for book, order in ((APART, PLAIN), ((3, ((-5, 5, 0),)), PLAIN), (ALIKE, PLAIN)):
            self.check(False, book, order, *odd_values(), book, order, ("one block", 1))


if __name__ == "__main__":
    unittest.main()
