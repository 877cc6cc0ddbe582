import unittest
from itertools import product
from random import Random

from passingsums.books import plain_order
from passingsums.weavings import is_met, read_of, span_met, weaving_error
from samples import (
    check_calls, nested, odd_values, random_book, random_order, random_weaving, shown, totals_met, walked,
)

HOUSE = (3, ((1, 0, -2), (0, 5, 0), (0, 3, -3)))
PLAIN, PAIR, WHOLE = ((0,), (1,), (2,)), ((0,), (1, 2)), ((0, 1, 2),)
BEGIN, BOTH = (10, 20, 30), ((1, 0, 2), (2, 1, 1))
MOST = 10 ** 6


class Examples(unittest.TestCase):
    """The examples of the document, as they stand there."""

    def test_weavings(self):
        values = (
            BOTH, (), BOTH[::-1], ((0, 0, 1),), ((3, 0, 1),), ((1, 3, 1),), ((1, 0, 0),), ((2, 0, MOST + 1),),
        )
        wanted = [None, None, ("stand", 1), ("stand", 0), ("stand", 0), ("deed", 0), ("times", 0), ("times", 0)]
        self.assertEqual(shown([weaving_error(HOUSE, PLAIN, value) for value in values]), shown(wanted))

    def test_more_that_are_none(self):
        values = ([], ((1, 0),), ((1, 0, True),), ((1, 0, 1), (1, -1, 0)), ((2, 0, 1), (1, 9, 0)))
        wanted = ["form", "form", "form", ("deed", 1), ("stand", 1)]
        self.assertEqual(shown([weaving_error(HOUSE, PLAIN, value) for value in values]), shown(wanted))

    def test_one_block(self):
        found = (
            weaving_error(HOUSE, WHOLE, ()), weaving_error(HOUSE, WHOLE, ((1, 0, 1),)),
            weaving_error(HOUSE, PAIR, ((1, 2, 4), (1, 0, 1))),
        )
        self.assertEqual(shown(found), shown((None, ("stand", 0), None)))

    def test_read_and_span(self):
        found = (
            read_of(HOUSE, PLAIN, BEGIN, BOTH), span_met(HOUSE, PLAIN, BEGIN, BOTH),
            read_of(HOUSE, PLAIN, BEGIN, ()), span_met(HOUSE, PLAIN, BEGIN, ()),
        )
        self.assertEqual(shown(found), shown((56, (58, 63), 60, (60, 60))))

    def test_met(self):
        values = (60, 59, 58, 63, 56, 61, 62, True, None)
        wanted = [True, True, True, True, False, False, False, False, False]
        self.assertEqual(shown([is_met(HOUSE, PLAIN, BEGIN, BOTH, value) for value in values]), shown(wanted))

    def test_a_far_run(self):
        far = ((1, 1, MOST),)
        found = read_of(HOUSE, PLAIN, BEGIN, far), span_met(HOUSE, PLAIN, BEGIN, far)
        self.assertEqual(shown(found), shown((5000060, (60, 5000060))))
        found = [is_met(HOUSE, PLAIN, BEGIN, far, value) for value in (65, 64, 5000060)]
        self.assertEqual(shown(found), shown([True, False, True]))

    def test_handing_over(self):
        told = ((1, 2, 4), (1, 0, 1))
        found = (
            read_of(HOUSE, PAIR, BEGIN, told), span_met(HOUSE, PAIR, BEGIN, told),
            read_of(HOUSE, PLAIN, BEGIN, ((2, 2, 4),)),
        )
        self.assertEqual(shown(found), shown((58, (59, 60), 48)))

    def test_the_text_around(self):
        self.assertEqual(walked(HOUSE, PLAIN, BEGIN, BOTH), (56, [60, 59, 58, 63]))
        self.assertEqual(walked(HOUSE, PAIR, BEGIN, ((1, 2, 4), (1, 0, 1))), (58, [60, 60, 60, 60, 60, 59]))


class WeavingError(unittest.TestCase):
    def check(self, wanted, *values, book=HOUSE, order=PLAIN):
        for value in values:
            with self.subTest(shown(value)[:80], order=order):
                check_calls(self, wanted, weaving_error, book=book, order=order, value=value)

    def test_each_run(self):
        for stand in range(-1, 5):
            for deed in range(-1, 5):
                for times in (-MOST, -1, 0, 1, 2, 999999, MOST, MOST + 1, 10 ** 399):
                    wanted = None
                    if not 1 <= times <= MOST:
                        wanted = ("times", 0)
                    if not 0 <= deed <= 2:
                        wanted = ("deed", 0)
                    if not 1 <= stand <= 2:
                        wanted = ("stand", 0)
                    self.check(wanted, ((stand, deed, times),))

    def test_no_run_one_and_a_hundred(self):
        self.check(None, (), ((1, 0, 1),), ((1, 0, 1),) * 100, ((1, 0, MOST),) * 50 + ((2, 2, MOST),) * 50)
        self.check(None, ((2, 2, 1),) * 99, ((1, 0, 1),) + ((2, 0, 1),) * 99)

    def test_too_many_runs(self):
        self.check("form", ((1, 0, 1),) * 101, ((1, 0, MOST),) * 1000, ((0, 9, 0),) * 101, ((2, 0, 1),) * 101)
        self.check("form", (None,) * 101, ((1, 0, 1),) * 100 + ((),))

    def test_a_fault_in_the_last_of_a_hundred(self):
        good = ((1, 0, 1),) * 99
        self.check(None, good + ((2, 0, 1),))
        self.check("form", good + ((1, 0),), good + ([1, 0, 1],))
        self.check(("stand", 99), good + ((0, 0, 1),), good + ((3, 0, 1),))
        self.check(("deed", 99), good + ((1, 3, 1),))
        self.check(("times", 99), good + ((1, 0, 0),))

    def test_stands(self):
        for many in range(2, 9):
            book, order = (many, ((1,) * many,)), plain_order(many)
            for stand in range(1, many):
                self.check(None, ((stand, 0, 1),), book=book, order=order)
            for stand in (-1, 0, many, many + 1, 10 ** 399):
                self.check(("stand", 0), ((stand, 0, 1),), book=book, order=order)
                self.check(("stand", 1), ((1, 0, 1), (stand, 0, 1)), book=book, order=order)

    def test_stands_that_fall(self):
        runs = [(stand, 0, 1) for stand in range(4)]
        self.check(None, (runs[1], runs[1], runs[2], runs[2]))
        self.check(("stand", 1), (runs[2], runs[1]), (runs[2], runs[1], runs[0]), (runs[2], runs[1], runs[2]))
        self.check(("stand", 2), (runs[1], runs[2], runs[1]), (runs[2], runs[2], runs[1]))
        self.check(("stand", 3), (runs[1], runs[1], runs[2], runs[3]), (runs[1], runs[1], runs[2], runs[1]))

    def test_deeds(self):
        for number in range(9):
            book = (3, ((1, 2, 3),) * number)
            for deed in range(number):
                self.check(None, ((1, deed, 1),), book=book)
            for deed in (-1, -number, number + 1, -number - 1, number, 10 ** 399, -10 ** 399):
                if deed != 0 or number == 0:
                    self.check(("deed", 0), ((2, deed, 1),), book=book)

    def test_a_book_of_no_deeds(self):
        self.check(None, (), book=(3, ()))
        self.check(("deed", 0), ((1, 0, 1),), ((1, 0, 0),), book=(3, ()))

    def test_one_block_has_one_weaving(self):
        self.check(None, (), order=WHOLE)
        self.check(None, (), book=(1, ((5,),)), order=((0,),))
        for stand in (-1, 0, 1, 2):
            self.check(("stand", 0), ((stand, 0, 1),), ((stand, 9, 0),), order=WHOLE)
            self.check(("stand", 0), ((stand, 0, 1),), book=(1, ((5,),)), order=((0,),))

    def test_two_faults_in_one_run(self):
        self.check(("stand", 0), ((0, 3, 1),), ((3, 0, 0),), ((0, -1, 0),), ((3, 3, MOST + 1),))
        self.check(("deed", 0), ((1, 3, 0),), ((2, -1, MOST + 1),))
        self.check(("stand", 1), ((2, 0, 1), (1, 3, 1)), ((2, 0, 1), (1, 0, 0)), ((2, 0, 1), (0, 3, 0)))

    def test_the_first_wrong_item_is_told(self):
        wrong = {(0, 0, 1): "stand", (1, 3, 1): "deed", (1, 0, 0): "times"}
        for (run, word), other in product(wrong.items(), wrong):
            for number in range(4):
                self.check((word, number), ((1, 0, 1),) * number + (run, other))

    def test_a_wrong_form_is_told_ahead_of_all_else(self):
        for item in (None, 1, "", (), [1, 0, 1], (1, 0), (1, 0, "1"), (True, 0, 1)):
            self.check("form", (item,), ((0, 0, 1), item), (item, (1, 9, 1)), ((1, 0, 0),) * 5 + (item,))

    def test_items_that_are_no_triples(self):
        for item in (None, True, 0, 1, "101", "", (), {}, [1, 0, 1], {1: 1, 0: 0, 2: 2}, ((1, 0, 1),), nested(5)):
            self.check("form", (item,), ((1, 0, 1), item))
        self.check("form", ((1,),), ((1, 0),), ((1, 0, 1, 1),), ((1, 0, 1) * 2,), (1, 0, 1), ((),), ((1, 0, 1), ()))

    def test_triples_of_other_kinds(self):
        for item in (True, False, None, "1", "", (1,), (), [1], {}, {1: 1}):
            self.check("form", ((item, 0, 1),), ((1, item, 1),), ((1, 0, item),), ((1, 0, 1), (2, 0, item)))

    def test_lists_in_place_of_tuples(self):
        self.check("form", [], [(1, 0, 1)], ([1, 0, 1],), [[1, 0, 1]], ((1, 0, 1), [2, 0, 1]), list(BOTH))

    def test_values_of_other_kinds(self):
        for order in (PLAIN, PAIR, WHOLE):
            self.check("form", *odd_values(), order=order)
            self.check("form", HOUSE, PLAIN, BEGIN, {1: (1, 0, 1)}, nested(20), nested(2), BOTH + (None,), order=order)

    def test_as_another_way_tells_it(self):
        items = [(stand, deed, times) for stand in (0, 1, 2, 3) for deed in (-1, 0, 3) for times in (0, 1)]
        for value in product(items, repeat=2):
            found, wanted = weaving_error(HOUSE, PLAIN, value), weaving_fault(value)
            if shown(found) != shown(wanted):
                self.fail(f"{value}: {found}, not {wanted}")


def weaving_fault(runs):
    """Tell what is wrong with runs of house and its plain order in another way: by a list of all faults."""
    faults = []
    for place, (stand, deed, times) in enumerate(runs):
        ahead = runs[place - 1][0] if place else 1
        faults += [("stand", place)] * (stand not in (1, 2) or stand < ahead)
        faults += [("deed", place)] * (deed not in (0, 1, 2))
        faults += [("times", place)] * (times not in range(1, MOST + 1))
    return faults[0] if faults else None


class Reading(unittest.TestCase):
    def check(self, book, order, begin, weaving, values=()):
        """Check what is read and met; each deed is done by itself if there are not too many."""
        named = {"book": book, "order": order, "begin": begin, "weaving": weaving}
        self.assertIsNone(weaving_error(book, order, weaving))
        ranges = totals_met(book, begin, weaving)
        read = read_of(book, order, begin, weaving)
        if sum(times for _, _, times in weaving) < 500:
            told, totals = walked(book, order, begin, weaving)
            self.assertEqual(read, told)
            self.assertEqual(set(totals), {total for met in ranges for total in met})
        ends = [met[at] for met in ranges for at in (0, -1)]
        least, greatest = min(ends), max(ends)
        check_calls(self, read, read_of, **named)
        check_calls(self, (least, greatest), span_met, **named)
        beside = [total + more for total in (least, greatest, read, 0) for more in (-1, 0, 1)]
        for value in {*beside, *values}:
            check_calls(self, any(value in met for met in ranges), is_met, **named, value=value)
        return read, (least, greatest)

    def test_each_deed_by_itself(self):
        random = Random(11)
        for _ in range(300):
            many = random.randint(1, 6)
            book, order = random_book(random, many, random.randint(0, 5), 9), random_order(random, many)
            begin = tuple(random.randint(-50, 50) for _ in range(many))
            weaving = random_weaving(random, book, order, 6, 7)
            self.check(book, order, begin, weaving, range(sum(begin) - 40, sum(begin) + 40))

    def test_a_hundred_runs(self):
        random = Random(12)
        for times in (1, 3, 50, MOST):
            for _ in range(5):
                many = random.randint(2, 8)
                book, order = random_book(random, many, 8, 99), plain_order(many)
                stands = sorted(random.randint(1, many - 1) for _ in range(100))
                weaving = tuple((stand, random.randrange(8), random.randint(1, times)) for stand in stands)
                near = [random.choice(met) + random.randint(-2, 2) for met in totals_met(book, (0,), weaving)]
                self.check(book, order, (0,) * many, weaving, near[:30])

    def test_a_hundred_of_the_longest_runs(self):
        book, order = (8, ((99,) * 8, (-99,) * 8)), plain_order(8)
        begin = (10 ** 9,) * 8
        read, span = self.check(book, order, begin, ((1, 0, MOST),) * 100, [8 * 10 ** 9 + 792 * 5 * 10 ** 7])
        self.assertEqual((read, span), (77300000000, (8000000000, 87200000000)))
        begin = (-10 ** 9,) * 8
        read, span = self.check(book, order, begin, ((7, 1, MOST),) * 100, [-8 * 10 ** 9 - 792 * 5 * 10 ** 7])
        self.assertEqual((read, span), (-17900000000, (-87200000000, -8000000000)))
        weaving = tuple((1 + at // 20, at % 2, MOST) for at in range(100))
        self.check(book, order, (0,) * 8, weaving, [792, -792, 791, 792 * MOST, 792 * (MOST + 1)])

    def test_far_begins_change_nothing_but_the_totals(self):
        random = Random(13)
        for _ in range(100):
            many = random.randint(1, 8)
            book, order = random_book(random, many, 4, 99), random_order(random, many)
            weaving = random_weaving(random, book, order, 10, random.choice((3, MOST)))
            read, span = self.check(book, order, (0,) * many, weaving)
            unlike = tuple(random.randint(-10 ** 9, 10 ** 9) for _ in range(many))
            for begin in ((10 ** 9,) * many, (-10 ** 9,) * many, unlike):
                total = sum(begin)
                found = self.check(book, order, begin, weaving, [total, total - 1])
                self.assertEqual(found, (read + total, (span[0] + total, span[1] + total)))

    def test_no_run(self):
        random = Random(14)
        for many in range(1, 9):
            begin = tuple(random.randint(-10 ** 9, 10 ** 9) for _ in range(many))
            for book in ((many, ()), random_book(random, many, 8, 99)):
                for order in (plain_order(many), (tuple(range(many)),)):
                    self.assertEqual(self.check(book, order, begin, ()), (sum(begin), (sum(begin), sum(begin))))

    def test_many_runs_are_as_good_as_one(self):
        for deed in range(3):
            for stand in (1, 2):
                one, many = ((stand, deed, 60),), ((stand, deed, 1),) * 60
                self.assertEqual(self.check(HOUSE, PLAIN, BEGIN, one), self.check(HOUSE, PLAIN, BEGIN, many))

    def test_runs_at_one_stand_may_change_places(self):
        first, second = ((1, 0, 2), (1, 1, 1)), ((1, 1, 1), (1, 0, 2))
        self.assertEqual(self.check(HOUSE, PLAIN, BEGIN, first), (61, (58, 63)))
        self.assertEqual(self.check(HOUSE, PLAIN, BEGIN, second), (61, (60, 65)))


class IsMet(unittest.TestCase):
    def check(self, wanted, weaving, *values, book=HOUSE, order=PLAIN, begin=BEGIN):
        for value in values:
            with self.subTest(shown(value)[:80], weaving=weaving):
                check_calls(self, wanted, is_met, book=book, order=order, begin=begin, weaving=weaving, value=value)

    def test_amid_a_run_and_beside_one(self):
        run = ((1, 1, 4),)
        self.check(True, run, 60, 65, 70, 75, 80)
        self.check(False, run, 55, 59, 61, 64, 66, 79, 81, 85, -60, 10 ** 399, -10 ** 399)
        run = ((2, 0, 3),)
        self.check(True, run, 60, 59, 58, 57)
        self.check(False, run, 61, 56, 55)

    def test_a_run_back_over_a_run(self):
        # Up by 5 to 80, and down by 1 to 72: all from 72 to 80, and each fifth below.
        runs = ((1, 1, 4), (1, 0, 8))
        self.check(True, runs, 60, 65, 70, 72, 73, 74, 75, 76, 77, 78, 79, 80)
        self.check(False, runs, 59, 61, 64, 66, 69, 71, 81, 55)

    def test_a_deed_whose_whole_is_nought(self):
        runs = ((2, 2, MOST),)
        self.check(True, runs, 60)
        self.check(False, runs, 59, 61, 57, 63, 60 - 3 * MOST)
        self.check(True, ((2, 2, 5), (2, 1, 1), (2, 2, 5)), 60, 65)
        self.check(False, ((2, 2, 5), (2, 1, 1), (2, 2, 5)), 61, 62, 63, 64, 50, 45)

    def test_each_total_of_long_runs(self):
        book = (2, ((3, 4), (-5, 0)))
        runs = ((1, 0, MOST), (1, 1, MOST))
        far = {"book": book, "order": ((0,), (1,)), "begin": (0, 0)}
        self.check(True, runs, 0, 7, 7 * MOST, 7 * (MOST - 1), 7 * MOST - 5, 2 * MOST, 2 * MOST + 5, 7 * 123456, **far)
        self.check(False, runs, -1, -7, 1, 6, 8, 7 * MOST + 1, 7 * MOST + 7, 2 * MOST - 5, 2 * MOST - 1, -5, **far)

    def test_noughts_and_ones(self):
        # A total of 0 or 1 is met, but False and True are none.
        book, order, begin = (2, ((1, 0),)), ((0,), (1,)), (0, 0)
        self.check(True, ((1, 0, 1),), 0, 1, book=book, order=order, begin=begin)
        self.check(False, ((1, 0, 1),), False, True, None, 2, -1, book=book, order=order, begin=begin)
        self.check(True, (), 0, book=book, order=order, begin=begin)
        self.check(False, (), False, True, 1, None, "0", "", book=book, order=order, begin=begin)

    def test_values_of_other_kinds(self):
        for weaving in ((), BOTH, ((1, 1, MOST),)):
            self.check(False, weaving, *[value for value in odd_values() if value != 60])
            self.check(False, weaving, "60", [60], (60,), {60: 60}, (60, 60), [[60]], BEGIN, BOTH, nested(20), b"60")


if __name__ == "__main__":
    unittest.main()
