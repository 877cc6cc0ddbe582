"""What holds over the whole program: the points that speak of several modules at once."""

import unittest
from fractions import Fraction
from random import Random

from passingsums.between import between_paper, breaks_between
from passingsums.books import book_error, order_error
from passingsums.booktexts import book_text, read_book
from passingsums.breaks import far_off, two_runs
from passingsums.chains import finest, kept_right, order_at, order_number, right_orders
from passingsums.errors import Breaks, NoBreak
from passingsums.halls import Hall
from passingsums.met import breaks_met, met_paper
from passingsums.pairs import breaks_hull, hull_paper, point_read, points_met
from passingsums.readers import more_read, never_back, never_less
from passingsums.records import between_word, met_word, record_error
from passingsums.shares import is_still, shares_of
from passingsums.weavings import weaving_error
from samples import books_of_kinds, random_order, random_weaving


def has_paper(paper_of, *named):
    try:
        paper_of(*named)
    except Breaks as error:
        assert weaving_error(*named[:2], error.weaving) is None
        return False
    return True


def cases(number, count):
    """Go through books of all kinds, each with an order of it."""
    random = Random(number)
    for _ in range(count):
        order = random_order(random, random.randint(1, 6))
        for book in books_of_kinds(random, order, random.randint(2, 6)):
            yield random, book, order


class Papers(unittest.TestCase):
    def test_no_weaving_breaks_what_has_a_paper(self):
        found = [0, 0, 0]
        for random, book, order in cases(151, 60):
            weights = tuple(tuple(random.randint(-2, 2) for _ in range(book[0])) for _ in range(2))
            weavings = [random_weaving(random, book, order, 5, times) for times in (1, 3, 10 ** 6)]
            for at, (paper_of, breaks, more) in enumerate((
                (between_paper, breaks_between, ()), (met_paper, breaks_met, ()), (hull_paper, breaks_hull, (weights,)),
            )):
                if has_paper(paper_of, book, order, *more):
                    found[at] += 1
                    for weaving in weavings:
                        self.assertIs(breaks(book, order, *more, weaving), False)
        self.assertGreater(min(found), 100)

    def test_between_and_what_it_takes_to_break(self):
        for random, book, order in cases(152, 40):
            right = has_paper(between_paper, book, order)
            if right:
                self.assertEqual(far_off(book, order, 5), (0, 0))
                with self.assertRaises(NoBreak):
                    two_runs(book, order)
            else:
                deeds, weaving = two_runs(book, order)
                self.assertIs(breaks_between(book, order, weaving), True)
                self.assertTrue(deeds > 6 or max(far_off(book, order, deeds)) > 0)
            deeds = range(len(book[1]))
            self.assertEqual(kept_right(book, order)[0] == len(book[1]), right)
            if all(len(block) == 1 for block in order) and right:
                self.assertEqual(order_at(book, order_number(book, order)), order)
            self.assertTrue(right or not all(is_still(book, order, deed) for deed in deeds))

    def test_a_mean_lies_between_means(self):
        found = 0
        for random, book, order in cases(153, 60):
            weights = tuple(tuple(random.randint(0, 2) for _ in range(book[0])) for _ in range(2))
            if has_paper(hull_paper, book, order, weights):
                begin = tuple(random.randint(0, 60) for _ in range(book[0]))
                weaving = random_weaving(random, book, order, 4, 3)
                met = points_met(book, order, weights, begin, weaving)
                if min(number for _, number in met) > 0:
                    total, number = point_read(book, order, weights, begin, weaving)
                    self.assertGreater(number, 0)
                    means = [Fraction(*point) for point in met]
                    self.assertTrue(min(means) <= Fraction(total, number) <= max(means))
                    found += 1
        self.assertGreater(found, 50)

    def test_orders_that_are_told_to_be_right(self):
        for _, book, _ in cases(154, 25):
            order = finest(book)
            self.assertIsNone(order_error(book[0], order))
            self.assertTrue(has_paper(between_paper, book, order))
            for number in range(0, right_orders(book), 1 + right_orders(book) // 4):
                self.assertTrue(has_paper(between_paper, book, order_at(book, number)))

    def test_books_told_as_texts(self):
        for _, book, _ in cases(155, 20):
            self.assertIsNone(book_error(book))
            self.assertEqual(read_book(book_text(book)), book)


class Readers(unittest.TestCase):
    def test_two_readers_in_a_hall(self):
        for random, book, order in cases(156, 40):
            hall, steps, places = Hall(book, (0,) * book[0]), [], [0, 0]
            self.assertEqual([hall.start(order), hall.start(order)], [0, 1])
            while min(places) < len(order):
                if book[1] and random.random() < 0.5 and len(steps) < 40:
                    steps.append((*places, random.randrange(len(book[1]))))
                    hall.do(steps[-1][2])
                reader = 0 if places[0] == places[1] or (places[0] < len(order) and random.random() < 0.5) else 1
                hall.step(reader)
                places[reader] += 1
            more = hall.read(1) - hall.read(0)
            self.assertEqual(more, more_read(book, order, tuple(steps)))
            self.assertTrue(more >= 0 or not never_less(book, order))
            behind = all(second == 0 or first == len(order) for first, second, _ in steps)
            self.assertTrue(more >= 0 or not (behind and never_back(book, order)))
            self.check_records(hall, book, order)

    def check_records(self, hall, book, order):
        for reader in range(2):
            record = hall.record_of(reader)
            self.assertIsNone(record_error(book, order, record))
            least, greatest = hall.span(reader)
            if has_paper(between_paper, book, order):
                self.assertEqual(between_word(book, order, record), "surely")
                self.assertTrue(least <= hall.read(reader) <= greatest)
            if has_paper(met_paper, book, order):
                self.assertEqual(met_word(book, order, record), "surely")
            self.assertTrue(between_word(book, order, record) != "never" or not least <= hall.read(reader) <= greatest)

    def test_a_second_reading_behind_the_first_one(self):
        # It is never less exactly if what is seen of each deed lies from nothing to its whole.
        for _, book, order in cases(157, 60):
            shares = [shares_of(book, order, deed) for deed in range(len(book[1]))]
            self.assertEqual(never_back(book, order), all(0 <= share <= row[0] for row in shares for share in row))


if __name__ == "__main__":
    unittest.main()
