import unittest
from itertools import combinations_with_replacement, product
from math import comb
from random import Random
from time import process_time

from passingsums.between import between_paper
from passingsums.books import plain_order
from passingsums.errors import Breaks, Impossible, Unfit
from passingsums.met import met_paper
from passingsums.records import (
    between_word, earliest, latest, met_word, placing_at, placing_number, placings, record_error,
)
from passingsums.weavings import read_of, span_met, weaving_error
from samples import (
    books_of_kinds, check_calls, check_raises, check_raises_with, nested, odd_values, orders_of, random_book,
    random_order, shown,
)

TWO, PLAIN = (2, ((1, 0), (0, 1), (-1, 1))), ((0,), (1,))
RECORD = ((5, 5), (2, 2, 0), (4, 7))
QUIET, SINGLES = (8, ((0,) * 8,)), tuple((cell,) for cell in range(8))
IDLE = ((7,) * 8, (0,) * 40, (7,) * 8)
FAR = 10 ** 9


def cells_behind(book, record):
    """Return what is in the cells behind none, one, two .. of the deeds of a record."""
    begin, deeds, _ = record
    found = [list(begin)]
    for deed in deeds:
        found.append([held + item for held, item in zip(found[-1], book[1][deed])])
    return found


def told_placings(book, order, record):
    """Return all placings of a record, in the order of tuples, by trying all rows that do not fall."""
    cells = cells_behind(book, record)
    return [
        row for row in combinations_with_replacement(range(len(cells)), len(order))
        if all(sum(cells[n][cell] for cell in block) == told for n, block, told in zip(row, order, record[2]))
    ]


def block_of_greed(book, order, record):
    """Return at which block greed fails: the first one up to which there is no placing."""
    begin, deeds, told = record
    for blocks in range(1, len(order) + 1):
        if not told_placings(book, order[:blocks], (begin, deeds, told[:blocks])):
            return blocks - 1
    return None


def words(book, order, record):
    """Tell both words in another way, from all placings."""
    totals = [sum(cells) for cells in cells_behind(book, record)]
    read, met, between = sum(record[2]), set(), set()
    for row in told_placings(book, order, record):
        stood = totals[row[0]:row[-1] + 1]
        met.add(read in stood)
        between.add(min(stood) <= read <= max(stood))
    named = {frozenset((True,)): "surely", frozenset((True, False)): "perhaps", frozenset((False,)): "never"}
    return named[frozenset(met)], named[frozenset(between)]


def random_record(random, book, order, most, bound):
    """Return a record of at most so many deeds that a reader really made, with when it read each block."""
    begin = tuple(random.randint(-bound, bound) for _ in range(book[0]))
    deeds = tuple(random.randrange(len(book[1])) for _ in range(random.randint(0, most) if book[1] else 0))
    places = tuple(sorted(random.randint(0, len(deeds)) for _ in order))
    cells = cells_behind(book, (begin, deeds, ()))
    told = tuple(sum(cells[n][cell] for cell in block) for n, block in zip(places, order))
    return (begin, deeds, told), places


class Examples(unittest.TestCase):
    """The examples of the document, as they stand there."""

    def test_errors(self):
        for wanted, value in (
            (None, RECORD), (None, ((5, 5), (), (9, -9))), ("form", ((5, 5), (2, 2, 0))),
            ("form", [(5, 5), (), (5, 5)]), ("form", ((5, 5), [], (5, 5))),
            ("begin", ((5,), (), (5, 5))), ("begin", ((5, True), (), (5, 5))), ("long", ((5, 5), (9,) * 41, ())),
            (("deed", 1), ((5, 5), (0, 3), ())), ("told", ((5, 5), (0,), (5,))), ("told", ((5, 5), (0,), (5, "5"))),
        ):
            check_calls(self, wanted, record_error, book=TWO, order=PLAIN, value=value)

    def test_earliest_and_latest(self):
        check_calls(self, (1, 2), earliest, book=TWO, order=PLAIN, record=RECORD)
        check_calls(self, (3, 3), latest, book=TWO, order=PLAIN, record=RECORD)
        check_calls(self, (0, 0), earliest, book=TWO, order=PLAIN, record=((5, 5), (), (5, 5)))
        for block, told in ((1, (3, 5)), (0, (6, 5))):
            named = {"book": TWO, "order": PLAIN, "record": ((5, 5), (2, 2, 0), told)}
            for function in (earliest, latest):
                check_raises_with(self, Impossible, {"block": block}, function, **named)

    def test_numbers(self):
        named = {"book": TWO, "order": PLAIN, "record": RECORD}
        check_calls(self, 3, placings, **named)
        for number, wanted in enumerate(((1, 2), (1, 3), (3, 3))):
            check_calls(self, wanted, placing_at, **named, value=number)
            check_calls(self, number, placing_number, **named, value=wanted)
        check_raises(self, Unfit, placing_at, **named, value=3)
        check_raises(self, Unfit, placing_number, **named, value=(3, 2))
        check_calls(self, 0, placings, book=TWO, order=PLAIN, record=((5, 5), (2, 2, 0), (3, 5)))
        check_calls(self, 1, placings, book=TWO, order=PLAIN, record=((5, 5), (), (5, 5)))

    def test_the_idle_record(self):
        named = {"book": QUIET, "order": SINGLES, "record": IDLE}
        check_calls(self, 377348994, placings, **named)
        check_calls(self, (0, 0, 0, 0, 0, 0, 0, 1), placing_at, **named, value=1)
        check_calls(self, (40,) * 8, placing_at, **named, value=377348993)
        self.assertEqual(comb(48, 8), 377348994)

    def test_words(self):
        for wanted, told in ((("perhaps", "perhaps"), (4, 7)), (("never", "never"), (5, 7))):
            named = {"book": TWO, "order": PLAIN, "record": ((5, 5), (2, 2, 0), told)}
            check_calls(self, wanted[0], met_word, **named)
            check_calls(self, wanted[1], between_word, **named)
        check_calls(self, "surely", met_word, book=TWO, order=PLAIN, record=((5, 5), (2, 2, 0), (5, 5)))
        once = {"book": (2, ((1, 1),)), "order": PLAIN, "record": ((0, 0), (0,), (0, 1))}
        check_calls(self, "never", met_word, **once)
        check_calls(self, "surely", between_word, **once)
        named = {"book": TWO, "order": PLAIN, "record": ((5, 5), (2, 2, 0), (3, 5))}
        check_raises_with(self, Impossible, {"block": 1}, met_word, **named)
        check_raises_with(self, Impossible, {"block": 1}, between_word, **named)

    def test_the_text_around(self):
        self.assertEqual(cells_behind(TWO, RECORD), [[5, 5], [4, 6], [3, 7], [4, 7]])
        self.assertEqual([sum(cells) for cells in cells_behind(TWO, RECORD)], [10, 10, 10, 11])


class RecordError(unittest.TestCase):
    def check(self, wanted, *values, book=TWO, order=PLAIN):
        for value in values:
            with self.subTest(shown(value)[:80]):
                check_calls(self, wanted, record_error, book=book, order=order, value=value)

    def test_right_records(self):
        random = Random(121)
        for _ in range(200):
            many = random.randint(1, 8)
            book, order = random_book(random, many, random.randint(0, 8), 99), random_order(random, many)
            record, _ = random_record(random, book, order, 40, random.choice((9, FAR)))
            self.check(None, record, book=book, order=order)

    def test_what_is_told_may_be_any_integers(self):
        for told in ((0, 0), (-1, 10 ** 399), (-10 ** 399, 9 * FAR)):
            self.check(None, ((5, 5), (2, 2, 0), told), ((5, 5), (), told))

    def test_no_triples_of_tuples(self):
        self.check("form", (), ((5, 5),), RECORD[:2], RECORD + ((),), list(RECORD), RECORD[::-1][:2], (RECORD,))
        for at in range(3):
            for item in (None, True, 5, "55", "", [5, 5], [], {}, {5: 5}, RECORD[0][0]):
                self.check("form", RECORD[:at] + (item,) + RECORD[at + 1:])
                self.check("form", ((5,), (9,) * 41, (5,))[:at] + (item,) + ((5,), (9,) * 41, (5,))[at + 1:])

    def test_begins(self):
        for begin in ((), (5,), (5, 5, 5), (5, FAR + 1), (-FAR - 1, 5), (5, True), (False, 5), (5, "5"), (5, None)):
            self.check("begin", (begin, (), (5, 5)), (begin, (9,) * 41, ()), (begin, (9,), (5,)), (begin, (0,), ()))
        self.check("begin", ((5, (5,)), (), (5, 5)), (([5], [5]), (), (5, 5)), ((5, 10 ** 399), (), (5, 5)))
        self.check(None, ((FAR, -FAR), (), (5, 5)), ((-FAR, FAR), (0,), (5, 5)))

    def test_forty_and_forty_one_deeds(self):
        for deeds in ((0,) * 40, (2,) * 40, (0, 1) * 20):
            self.check(None, ((5, 5), deeds, (5, 5)))
            self.check("long", ((5, 5), deeds + (0,), (5, 5)), ((5, 5), deeds + (9,), (5,)), ((5, 5), deeds * 50, ()))
        self.check(("deed", 39), ((5, 5), (0,) * 39 + (3,), (5, 5)))
        self.check("long", ((5, 5), (None,) * 41, (5, 5)))

    def test_deeds(self):
        for deed in (-1, 3, 10 ** 399, True, False, None, "0", (0,), [0], ()):
            for at in range(4):
                self.check(("deed", at), ((5, 5), (0,) * at + (deed,), (5, 5)), ((5, 5), (1,) * at + (deed, 9), ()))
        self.check(("deed", 0), ((5, 5), (0,), (5, 5)), book=(2, ()))
        self.check(None, ((5, 5), (), (5, 5)), book=(2, ()))

    def test_told(self):
        for told in ((), (5,), (5, 5, 5), (5, True), (False, 5), (5, None), ("5", 5), (5, (5,)), ([5], 5)):
            self.check("told", ((5, 5), (0, 1, 2), told), ((5, 5), (), told))
        self.check(None, ((5, 5), (), (10,)), order=((0, 1),))
        self.check("told", ((5, 5), (), (5, 5)), order=((0, 1),))

    def test_values_of_other_kinds(self):
        for order in (PLAIN, ((0, 1),)):
            self.check("form", *odd_values(), TWO, PLAIN, {1: RECORD}, nested(20), order=order)


class Placings(unittest.TestCase):
    def check(self, book, order, record):
        """Check all that is told of a record against all rows that do not fall."""
        self.assertIsNone(record_error(book, order, record))
        named, wanted = {"book": book, "order": order, "record": record}, told_placings(book, order, record)
        check_calls(self, len(wanted), placings, **named)
        for value in (-1, len(wanted), len(wanted) + 1, True, False, None, 10 ** 300):
            check_raises(self, Unfit, placing_at, **named, value=value)
        if not wanted:
            return self.check_impossible(book, order, record)
        least = tuple(min(row[at] for row in wanted) for at in range(len(order)))
        greatest = tuple(max(row[at] for row in wanted) for at in range(len(order)))
        check_calls(self, least, earliest, **named)
        check_calls(self, greatest, latest, **named)
        self.assertIn(least, wanted)
        self.assertIn(greatest, wanted)
        for number, row in list(enumerate(wanted))[::1 + len(wanted) // 20]:
            check_calls(self, row, placing_at, **named, value=number)
            check_calls(self, number, placing_number, **named, value=row)
        met, between = words(book, order, record)
        check_calls(self, met, met_word, **named)
        check_calls(self, between, between_word, **named)
        self.assertTrue(between == "surely" or met != "surely")
        self.assertTrue(met == "never" or between != "never")
        return met, between

    def check_impossible(self, book, order, record):
        named, block = {"book": book, "order": order, "record": record}, block_of_greed(book, order, record)
        for function in (earliest, latest, met_word, between_word):
            check_raises_with(self, Impossible, {"block": block}, function, **named)
        for row in ((0,) * len(order), (len(record[1]),) * len(order)):
            check_raises(self, Unfit, placing_number, **named, value=row)
        check_raises(self, Unfit, placing_at, **named, value=0)
        return "impossible", block

    def test_records_that_were_made(self):
        random, found = Random(122), []
        for _ in range(500):
            many, bound = random.randint(1, 4), random.choice((1, 1, 2))
            book, order = random_book(random, many, random.randint(0, 4), bound), random_order(random, many)
            record, places = random_record(random, book, order, 9, 3)
            found.append(self.check(book, order, record))
            self.assertEqual(placing_at(book, order, record, placing_number(book, order, record, places)), places)
        for word in ("surely", "perhaps", "never"):
            self.assertGreater([met for met, _ in found].count(word), 10, word)
            self.assertGreater([between for _, between in found].count(word), 3, word)

    def test_records_with_what_is_told_changed(self):
        random, blocks = Random(123), []
        for _ in range(250):
            many = random.randint(1, 4)
            book, order = random_book(random, many, random.randint(1, 4), 2), random_order(random, many)
            (begin, deeds, told), _ = random_record(random, book, order, 8, 3)
            at = random.randrange(len(order))
            told = told[:at] + (told[at] + random.choice((-2, -1, 1, 2, 99)),) + told[at + 1:]
            word, block = self.check(book, order, (begin, deeds, told))
            blocks += [block] * (word == "impossible")
        for block in range(3):
            self.assertGreater(blocks.count(block), 5)

    def test_all_that_can_be_told_of_few_deeds(self):
        for order in (PLAIN, PLAIN[::-1], ((0, 1),)):
            for deeds in product(range(3), repeat=3):
                cells = cells_behind(TWO, ((0, 0), deeds, ()))
                sums = [sorted({sum(row[cell] for cell in block) for row in cells}) for block in order]
                for told in product(*sums):
                    self.check(TWO, order, ((0, 0), deeds, told))

    def test_no_deeds(self):
        for many in range(1, 9):
            order = plain_order(many)
            record = (tuple(range(many)), (), tuple(range(many)))
            self.assertEqual(self.check((many, ()), order, record), ("surely", "surely"))
            off = record[:2] + (record[2][:-1] + (99,),)
            self.assertEqual(self.check((many, ()), order, off), ("impossible", many - 1))

    def test_one_block(self):
        random = Random(124)
        for many in range(1, 6):
            for _ in range(8):
                order, book = (tuple(range(many)),), random_book(random, many, 3, 1)
                record, _ = random_record(random, book, order, 12, 9)
                self.assertEqual(self.check(book, order, record), ("surely", "surely"))

    def test_far_begins_and_great_sums(self):
        random = Random(125)
        for _ in range(60):
            many = random.randint(1, 4)
            book, order = random_book(random, many, 3, 99), random_order(random, many)
            record, _ = random_record(random, book, order, 6, FAR)
            self.check(book, order, record)
            self.check(book, order, record[:2] + ((10 ** 399,) * len(order),))

    def test_a_deed_more_takes_no_placing_away(self):
        random = Random(126)
        for _ in range(60):
            many = random.randint(1, 4)
            book, order = random_book(random, many, 3, 1), random_order(random, many)
            (begin, deeds, told), _ = random_record(random, book, order, 8, 2)
            wanted = told_placings(book, order, (begin, deeds, told))
            for deed in range(3):
                found = told_placings(book, order, (begin, deeds + (deed,), told))
                self.assertEqual([row for row in found if row in wanted], wanted)
                self.assertGreaterEqual(placings(book, order, (begin, deeds + (deed,), told)), len(wanted))

    def test_equal_deeds_behind_one_another(self):
        # The cells come back to what they were: many placings, and gaps between them.
        book = (3, ((1, 0, 0), (-1, 0, 0), (0, 1, -1), (0, -1, 1)))
        for deeds in ((0, 1) * 4, (2, 3) * 4, (0, 2, 1, 3) * 2, (0, 0, 1, 1, 2, 2, 3, 3)):
            for order in orders_of((0, 1, 2)):
                cells = cells_behind(book, ((0, 0, 0), deeds, ()))
                for ends in ((0, 4, 8), (1, 1, 7), (2, 5, 5), (8, 8, 8)):
                    told = tuple(sum(cells[end][cell] for cell in block) for end, block in zip(ends, order))
                    self.check(book, order, ((0, 0, 0), deeds, told))


class Numbers(unittest.TestCase):
    def test_very_many_placings(self):
        started, random = process_time(), Random(127)
        named = {"book": QUIET, "order": SINGLES, "record": IDLE}
        last = None
        for number in sorted([0, 1, 40, 41, 377348992, 377348993] + [random.randrange(377348994) for _ in range(30)]):
            row = placing_at(**named, value=number)
            self.assertEqual(list(row), sorted(row))
            self.assertEqual(placing_number(**named, value=row), number)
            self.assertTrue(last is None or row >= last)
            last = row
        self.assertEqual(placing_at(**named, value=41), (0,) * 6 + (1, 1))
        check_raises(self, Unfit, placing_at, **named, value=377348994)
        check_calls(self, (0,) * 8, earliest, **named)
        check_calls(self, (40,) * 8, latest, **named)
        check_calls(self, "surely", met_word, **named)
        check_calls(self, "surely", between_word, **named)
        self.assertLess(process_time() - started, 20)

    def test_numbers_that_are_none(self):
        impossible = ((5, 5), (2, 2, 0), (3, 5))
        values = [value for value in odd_values() if value not in (0, 1) or isinstance(value, bool)]
        for value in (*values, 3, 4, -1, -3, "0", (0,), [0], (1, 2), RECORD):
            check_raises(self, Unfit, placing_at, book=TWO, order=PLAIN, record=RECORD, value=value)
            check_raises(self, Unfit, placing_at, book=TWO, order=PLAIN, record=impossible, value=value)

    def test_rows_that_are_none(self):
        rows = [
            (1,), (1, 2, 2), (1, 2, 3), [1, 2], [(1, 2)], ((1, 2),), (2, 1), (3, 2), (0, 2), (1, 1), (2, 2), (3, 4),
            (4, 4), (-1, 2), (1, -1), (True, 2), (True, 3), (1, "2"), (1, None), (1, (2,)), (),
            (10 ** 399, 10 ** 399), {1: 2},
        ]
        for value in (*odd_values(), *rows, TWO, PLAIN, RECORD):
            check_raises(self, Unfit, placing_number, book=TWO, order=PLAIN, record=RECORD, value=value)
        still = ((5, 5), (), (5, 5))
        check_calls(self, 0, placing_number, book=TWO, order=PLAIN, record=still, value=(0, 0))
        for value in ((False, 0), (0, False), (0, True), (False, False), (0,), (0, 0, 0), [0, 0], None):
            check_raises(self, Unfit, placing_number, book=TWO, order=PLAIN, record=still, value=value)

    def test_all_rows_of_few_deeds(self):
        wanted = {(1, 2): 0, (1, 3): 1, (3, 3): 2}
        for value in product(range(-1, 5), repeat=2):
            if value in wanted:
                check_calls(self, wanted[value], placing_number, book=TWO, order=PLAIN, record=RECORD, value=value)
            else:
                check_raises(self, Unfit, placing_number, book=TWO, order=PLAIN, record=RECORD, value=value)


class WhatHolds(unittest.TestCase):
    def test_least_and_greatest_of_two_placings(self):
        random = Random(128)
        for _ in range(60):
            many = random.randint(1, 3)
            book, order = random_book(random, many, 2, 1), random_order(random, many)
            record, _ = random_record(random, book, order, 7, 1)
            rows = told_placings(book, order, record)
            for first, second in product(rows[:12], repeat=2):
                for pick in (min, max):
                    other = tuple(pick(pair) for pair in zip(first, second))
                    self.assertGreaterEqual(placing_number(book, order, record, other), 0)

    def test_a_placing_tells_a_weaving(self):
        random = Random(129)
        for _ in range(150):
            many = random.randint(1, 5)
            book, order = random_book(random, many, 4, 9), random_order(random, many)
            record, row = random_record(random, book, order, 30, 99)
            cells, deeds = cells_behind(book, record), record[1]
            weaving = tuple(
                (len([n for n in row if n <= place]), deeds[place], 1) for place in range(row[0], row[-1]))
            self.assertIsNone(weaving_error(book, order, weaving))
            begin = tuple(cells[row[0]])
            totals = [sum(held) for held in cells[row[0]:row[-1] + 1]]
            self.assertEqual(read_of(book, order, begin, weaving), sum(record[2]))
            self.assertEqual(span_met(book, order, begin, weaving), (min(totals), max(totals)))

    def test_right_orders_tell_surely(self):
        random, found = Random(130), [0, 0]
        for _ in range(40):
            order = random_order(random, random.randint(1, 6))
            for book in books_of_kinds(random, order, 4):
                for _ in range(3):
                    record, _ = random_record(random, book, order, 40, 9)
                    for at, (paper_of, word) in enumerate(((between_paper, between_word), (met_paper, met_word))):
                        try:
                            paper_of(book, order)
                        except Breaks:
                            continue
                        self.assertEqual(word(book, order, record), "surely")
                        found[at] += 1
        self.assertGreater(min(found), 100)


if __name__ == "__main__":
    unittest.main()
