import unittest
from copy import deepcopy
from random import Random

from passingsums.between import between_paper
from passingsums.bounds import MAX_DONE, MAX_READERS
from passingsums.books import plain_order
from passingsums.errors import BadEntry, Breaks, NoReader, SumsError, TooMany, Unfit
from passingsums.halls import Hall, hall_behind
from passingsums.met import met_paper
from passingsums.records import earliest, latest, placing_number, record_error
from samples import (
    books_of_kinds, check_raises, check_raises_with, nested, odd_values, random_book, random_order, shown,
)

TILLS, BEGIN = (2, ((1, 0), (0, 1), (-1, 1))), (5, 5)
PLAIN, TURNED, WHOLE = ((0,), (1,)), ((1,), (0,)), ((0, 1),)
FAR = 10 ** 8


def told(hall):
    """Return all that a hall tells, as a text: unlike ==, this tells True from 1."""
    found = [hall.cells, hall.total, hall.readers, hall.log]
    for reader in range(hall.readers):
        for method in (hall.read, hall.span, hall.record_of):
            try:
                found.append(method(reader))
            except Unfit:
                found.append("unfit")
    return shown(found)


class Model:
    """A hall told in another way: it keeps what was in the cells behind each deed, and when each block was read."""

    def __init__(self, book, begin):
        self.book, self.held, self.deeds, self.log, self.led = book, [list(begin)], [], [], []

    def do(self, deed):
        self.held.append([held + item for held, item in zip(self.held[-1], self.book[1][deed])])
        self.deeds.append(deed)
        self.log.append(("do", deed))
        return sum(self.held[-1])

    def start(self, order):
        self.led.append((order, len(self.deeds), []))
        self.log.append(("start", order))
        return len(self.led) - 1

    def step(self, reader):
        order, _, places = self.led[reader]
        places.append(len(self.deeds))
        self.log.append(("step", reader))
        return self.told_by(reader)[-1]

    def is_over(self, reader):
        return len(self.led[reader][0]) == len(self.led[reader][2])

    def told_by(self, reader):
        order, _, places = self.led[reader]
        return [sum(self.held[place][cell] for cell in block) for block, place in zip(order, places)]

    def told(self):
        found = [tuple(self.held[-1]), sum(self.held[-1]), len(self.led), tuple(self.log)]
        for reader, (_, since, places) in enumerate(self.led):
            totals = [sum(self.held[at]) for at in range(places[0], places[-1] + 1)] if places else []
            record = (tuple(self.held[since]), tuple(self.deeds[since:]), tuple(self.told_by(reader)))
            found.append(sum(self.told_by(reader)))
            found.append((min(totals), max(totals)) if places else "unfit")
            found.append(record if self.is_over(reader) else "unfit")
        return shown(found)


def random_call(random, model):
    """Return a call that raises nothing, as its entry; None if the one that was drawn would."""
    word = random.choice(("do", "do", "do", "start", "step", "step", "step", "step"))
    if word == "do":
        fits = len(model.deeds) < MAX_DONE and model.book[1]
        return ("do", random.randrange(len(model.book[1]))) if fits else None
    if word == "start":
        order = random_order(random, model.book[0])
        return ("start", order) if len(model.led) < MAX_READERS else None
    fitting = [reader for reader in range(len(model.led)) if not model.is_over(reader)]
    return ("step", random.choice(fitting)) if fitting else None


class Case(unittest.TestCase):
    def check_fails(self, hall, wanted, method, *values, **held):
        """Check that a method raises just this error, which holds this, and changes nothing; by place and by name."""
        name = {"do": "deed", "start": "order"}.get(method, "reader")
        for value in values:
            kept, before = deepcopy(value), told(hall)
            held = {"given": value} if wanted is NoReader else held
            for call in (lambda: getattr(hall, method)(value), lambda: getattr(hall, method)(**{name: value})):
                with self.assertRaises(wanted, msg=(method, shown(value)[:80])) as caught:
                    call()
                self.assertIs(type(caught.exception), wanted)
                self.assertEqual(shown(vars(caught.exception)), shown(held))
            self.assertEqual(told(hall), before)
            self.assertEqual(shown(value), shown(kept))


class Examples(Case):
    """The examples of the document, as they stand there."""

    def setUp(self):
        self.hall = h = Hall(TILLS, BEGIN)
        self.first = [
            h.total, h.start(PLAIN), h.read(0), h.step(0), h.do(2), h.cells, h.step(0), h.read(0), h.span(0)]
        self.second = [
            h.start(TURNED), h.step(1), h.do(2), h.do(0), h.span(1), h.step(1), h.read(1), h.span(1), h.do(1),
            h.span(1),
        ]

    def test_each_call(self):
        self.assertEqual(shown(self.first), shown([10, 0, 0, 5, 10, (4, 6), 6, 11, (10, 10)]))
        self.assertEqual(shown(self.second), shown([1, 6, 10, 11, (10, 10), 4, 10, (10, 11), 12, (10, 11)]))

    def test_records(self):
        h = self.hall
        found = h.record_of(0), h.record_of(1), h.cells, h.readers
        wanted = (((5, 5), (2, 2, 0, 1), (5, 6)), ((4, 6), (2, 0, 1), (6, 4)), (4, 8), 2)
        self.assertEqual(shown(found), shown(wanted))

    def test_errors(self):
        self.check_fails(self.hall, Unfit, "step", 0)
        self.check_fails(self.hall, NoReader, "step", 2)
        self.check_fails(self.hall, Unfit, "do", True)
        self.check_fails(self.hall, Unfit, "start", ((0,),))

    def test_halls_behind(self):
        h = self.hall
        self.assertEqual(shown(h.log[:3]), shown((("start", PLAIN), ("step", 0), ("do", 2))))
        self.assertEqual(len(h.log), 10)
        self.assertEqual(hall_behind(TILLS, BEGIN, h.log).cells, h.cells)
        self.assertEqual(hall_behind(TILLS, BEGIN, h.log).record_of(1), h.record_of(1))
        log = (("do", 0), ("step", 0))
        check_raises_with(self, BadEntry, {"place": 1}, hall_behind, book=TILLS, begin=BEGIN, log=log)
        check_raises_with(self, BadEntry, {"place": 0}, hall_behind, book=TILLS, begin=BEGIN, log=[("do", 0)])


class Halls(Case):
    def test_random_calls(self):
        random, over = Random(141), 0
        for _ in range(60):
            many = random.randint(1, 8)
            book = random_book(random, many, random.randint(0, 8), 99)
            begin = tuple(random.choice((0, FAR, -FAR, random.randint(-99, 99))) for _ in range(many))
            hall, model = Hall(book, begin), Model(book, begin)
            for _ in range(random.choice((5, 40, 200))):
                entry = random_call(random, model)
                if entry is not None:
                    word, argument = entry
                    found = getattr(hall, word)(argument)
                    self.assertEqual(shown(found), shown(getattr(model, word)(argument)))
                if random.random() < 0.2:
                    self.assertEqual(told(hall), model.told())
            self.assertEqual(told(hall), model.told())
            over += len([reader for reader in range(len(model.led)) if model.is_over(reader)])
            self.assertEqual(told(hall_behind(book, begin, hall.log)), model.told())
        self.assertGreater(over, 60)

    def test_a_new_hall(self):
        for begin in ((5, 5), (0, 0), (FAR, -FAR), (-FAR, -FAR)):
            hall = Hall(TILLS, begin)
            wanted = (begin, sum(begin), 0, ())
            self.assertEqual(shown((hall.cells, hall.total, hall.readers, hall.log)), shown(wanted))
            self.assertEqual(told(Hall(book=TILLS, begin=begin)), told(hall))

    def test_begins_that_are_none(self):
        begins = [
            (), (5,), (5, 5, 5), [5, 5], (5, FAR + 1), (-FAR - 1, 5), (True, 5), (5, False), (5, "5"), (5, None),
            ((5,), 5), (5, 10 ** 399), "55", {5: 5}, (5, [5]), ((5, 5),), *odd_values(), nested(20),
        ]
        for begin in begins:
            check_raises(self, Unfit, Hall, book=TILLS, begin=begin)
        with self.assertRaises(Unfit):
            Hall(TILLS, Hall(TILLS, BEGIN))

    def test_by_names(self):
        hall, other = Hall(TILLS, BEGIN), Hall(TILLS, BEGIN)
        self.assertEqual(hall.start(order=TURNED), other.start(TURNED))
        for _ in range(2):
            self.assertEqual(hall.do(deed=2), other.do(2))
            self.assertEqual(hall.step(reader=0), other.step(0))
        self.assertEqual(hall.read(reader=0), other.read(0))
        self.assertEqual(hall.span(reader=0), other.span(0))
        self.assertEqual(hall.record_of(reader=0), other.record_of(0))
        self.assertEqual(told(hall), told(other))
        self.assertEqual(told(hall_behind(book=TILLS, begin=BEGIN, log=hall.log)), told(hall))

    def test_what_is_asked_changes_nothing(self):
        hall = Hall(TILLS, BEGIN)
        for call in (lambda: hall.start(PLAIN), lambda: hall.step(0), lambda: hall.do(2), lambda: hall.step(0)):
            call()
            before = told(hall)
            for _ in range(3):
                self.assertEqual(told(hall), before)

    def test_what_was_returned_stays(self):
        hall = Hall(TILLS, BEGIN)
        hall.start(PLAIN)
        hall.step(0)
        hall.step(0)
        cells, log, record = hall.cells, hall.log, hall.record_of(0)
        kept = shown((cells, log, record))
        hall.do(0)
        hall.start(WHOLE)
        self.assertEqual(shown((cells, log, record)), kept)
        self.assertEqual(hall.log, log + (("do", 0), ("start", WHOLE)))

    def test_two_halls_side_by_side(self):
        random = Random(142)
        books = [TILLS, (2, ((9, 9), (-1, 0)))]
        halls = [Hall(book, BEGIN) for book in books] + [Hall(TILLS, (0, 0))]
        models = [Model(book, BEGIN) for book in books] + [Model(TILLS, (0, 0))]
        for _ in range(150):
            at = random.randrange(3)
            entry = random_call(random, models[at])
            if entry is not None:
                word, argument = entry
                getattr(halls[at], word)(argument)
                getattr(models[at], word)(argument)
            self.assertEqual([told(hall) for hall in halls], [model.told() for model in models])

    def test_one_log_makes_halls_that_are_alike(self):
        hall, other = Hall(TILLS, BEGIN), Hall(TILLS, BEGIN)
        for word, argument in (("start", PLAIN), ("do", 1), ("step", 0), ("do", 2), ("start", WHOLE), ("step", 1)):
            self.assertEqual(getattr(hall, word)(argument), getattr(other, word)(argument))
            self.assertEqual(told(hall), told(other))


class Deeds(Case):
    def test_forty_and_one_more(self):
        for before in (0, 3):
            hall = Hall(TILLS, BEGIN)
            for _ in range(before):
                hall.start(PLAIN)
            for number in range(40):
                self.assertEqual(hall.do(number % 3), sum(hall.cells))
            self.check_fails(hall, TooMany, "do", 0, 1, 2, limit=40)
            self.check_fails(hall, Unfit, "do", 3, -1, True, None)
            self.assertEqual(hall.start(PLAIN), before)
            self.assertEqual(hall.step(before), hall.cells[0])
            self.check_fails(hall, TooMany, "do", 0, limit=40)

    def test_deeds_that_are_none(self):
        hall = Hall(TILLS, BEGIN)
        hall.do(1)
        values = [value for value in odd_values() if value not in (0, 1) or isinstance(value, bool)]
        self.check_fails(hall, Unfit, "do", *values, 3, -1, -3, 10 ** 300, "0", (0,), [0], (1, 0), hall.log)
        self.check_fails(Hall((2, ()), BEGIN), Unfit, "do", 0, -1, True, None)
        with self.assertRaises(Unfit):
            hall.do(hall)

    def test_the_greatest_numbers(self):
        hall = Hall((8, ((99,) * 8, (-99,) * 8)), (FAR,) * 8)
        for number in range(40):
            self.assertEqual(hall.do(0), 8 * (FAR + 99 * (number + 1)))
        self.assertEqual(hall.cells, (FAR + 3960,) * 8)


class Starts(Case):
    def test_eight_and_one_more(self):
        hall = Hall(TILLS, BEGIN)
        for number in range(8):
            self.assertEqual(hall.start((PLAIN, TURNED, WHOLE)[number % 3]), number)
            self.assertEqual(hall.readers, number + 1)
        self.check_fails(hall, TooMany, "start", PLAIN, TURNED, WHOLE, limit=8)
        self.check_fails(hall, Unfit, "start", (), ((0,),), None, [(0,), (1,)])
        self.assertEqual(hall.step(7), 5)
        self.assertEqual(hall.do(0), 11)
        self.check_fails(hall, TooMany, "start", PLAIN, limit=8)
        for reader in range(8):
            self.assertEqual(hall.read(reader), 5 if reader == 7 else 0)

    def test_orders_that_are_none(self):
        hall = Hall(TILLS, BEGIN)
        hall.start(PLAIN)
        self.check_fails(
            hall, Unfit, "start", *odd_values(), [(0,), (1,)], ([0], [1]), ((0,), [1]), (0, 1), ((0,),), ((1,),),
            (), ((),), ((0,), (1,), ()), ((1, 0),), ((0, 0), (1,)), ((0,), (1,), (1,)), ((0,), (2,)), ((0, 1), (1,)),
            ((False,), (True,)), ((0,), (True,)), ((0,), (1,), (2,)), ((-1,), (0,), (1,)), nested(20), hall.log, TILLS,
        )


class Readers(Case):
    METHODS = ("step", "read", "span", "record_of")

    def test_no_reader(self):
        hall = Hall(TILLS, BEGIN)
        for method in self.METHODS:
            self.check_fails(hall, NoReader, method, 0, 1, -1, None)
        for number in range(3):
            hall.start(PLAIN)
            for method in self.METHODS:
                values = [value for value in odd_values() if value not in (0, 1) or isinstance(value, bool)]
                self.check_fails(hall, NoReader, method, *values, number + 1, -1, -number - 1, 10 ** 300)
                self.check_fails(hall, NoReader, method, "0", (0,), [0], {0: 0}, PLAIN, (0, 0), b"0")

    def test_true_and_false_are_no_numbers(self):
        hall = Hall(TILLS, BEGIN)
        hall.start(PLAIN)
        hall.start(TURNED)
        for _ in range(3):
            for method in self.METHODS:
                self.check_fails(hall, NoReader, method, True, False)
            for reader in range(2):
                try:
                    hall.step(reader)
                except Unfit:
                    pass

    def test_what_was_given_is_held_as_it_was(self):
        hall, given = Hall(TILLS, BEGIN), [1, (2, [3])]
        for method in self.METHODS:
            with self.assertRaises(NoReader) as caught:
                getattr(hall, method)(given)
            self.assertIs(caught.exception.given, given)
            with self.assertRaises(NoReader) as caught:
                getattr(hall, method)(hall)
            self.assertIs(caught.exception.given, hall)

    def test_all_blocks_are_read(self):
        for order in (PLAIN, WHOLE):
            hall = Hall(TILLS, BEGIN)
            hall.start(order)
            for stand in range(len(order)):
                self.check_fails(hall, Unfit, "record_of", 0)
                self.check_fails(hall, Unfit, "span", *[0] * (stand == 0))
                self.assertEqual(hall.step(0), 5 if order == PLAIN else 10)
            for _ in range(3):
                self.check_fails(hall, Unfit, "step", 0)
                hall.do(0)
            self.assertEqual(hall.record_of(0), (BEGIN, (0, 0, 0), (5, 5) if order == PLAIN else (10,)))

    def test_the_span_begins_with_the_first_reading(self):
        hall = Hall(TILLS, BEGIN)
        hall.start(PLAIN)
        hall.do(0)
        self.check_fails(hall, Unfit, "span", 0)
        hall.do(0)
        hall.step(0)
        self.assertEqual(hall.span(0), (12, 12))
        for total in (13, 14, 15):
            hall.do(1)
            self.assertEqual(hall.span(0), (12, 12))
        hall.step(0)
        self.assertEqual(hall.span(0), (12, total))
        hall.do(1)
        self.assertEqual(hall.span(0), (12, total))
        self.assertEqual(hall.record_of(0), (BEGIN, (0, 0, 1, 1, 1, 1), (7, 8)))

    def test_the_span_holds_the_totals_amid(self):
        hall = Hall((2, ((9, 0), (-9, 0))), (0, 0))
        hall.start(TURNED)
        hall.step(0)
        for deed in (0, 0, 1, 1, 1, 0):
            hall.do(deed)
        hall.step(0)
        self.assertEqual(hall.span(0), (-9, 18))

    def test_the_record_begins_with_the_start(self):
        hall = Hall(TILLS, BEGIN)
        hall.do(0)
        hall.do(1)
        self.assertEqual([hall.start(WHOLE), hall.do(2), hall.start(WHOLE), hall.do(0)], [0, 12, 1, 13])
        self.assertEqual([hall.step(0), hall.step(1)], [13, 13])
        self.assertEqual(hall.record_of(0), ((6, 6), (2, 0), (13,)))
        self.assertEqual(hall.record_of(1), ((5, 7), (0,), (13,)))

    def test_each_one_has_an_order_of_its_own(self):
        hall = Hall((3, ((1, 2, 4),)), (10, 20, 40))
        for order in (((2,), (0, 1)), ((0, 1, 2),), ((1,), (0,), (2,))):
            hall.start(order)
        found = [hall.step(2), hall.step(0), hall.do(0), hall.step(1), hall.step(2), hall.step(0), hall.step(2)]
        self.assertEqual(found, [20, 40, 77, 77, 11, 33, 44])
        self.assertEqual([hall.read(reader) for reader in range(3)], [73, 77, 75])


class HallBehind(Case):
    def setUp(self):
        hall = Hall(TILLS, BEGIN)
        for word, argument in (
            ("do", 0), ("start", PLAIN), ("do", 2), ("step", 0), ("start", WHOLE), ("do", 1), ("step", 1), ("do", 0),
            ("step", 0), ("start", TURNED), ("step", 2), ("do", 2), ("step", 2),
        ):
            getattr(hall, word)(argument)
        self.hall, self.log = hall, hall.log

    def place_of(self, log):
        """Return the place of the first entry that can't be done, by doing all by hand; None if all can."""
        hall = Hall(TILLS, BEGIN)
        for place, entry in enumerate(log):
            if type(entry) is not tuple or len(entry) != 2 or entry[0] not in ("do", "start", "step"):
                return place
            try:
                getattr(hall, entry[0])(entry[1])
            except SumsError:
                return place
        return None

    def check(self, *logs):
        for log in logs:
            place = self.place_of(log)
            if place is None:
                hall = hall_behind(TILLS, BEGIN, log)
                self.assertEqual(told(hall), told(hall_behind(book=TILLS, begin=BEGIN, log=log)))
                self.assertEqual(shown(hall.log), shown(log))
            else:
                held = {"place": place}
                check_raises_with(self, BadEntry, held, hall_behind, book=TILLS, begin=BEGIN, log=log)

    def test_whole_logs_and_logs_cut(self):
        self.assertEqual(told(hall_behind(TILLS, BEGIN, self.log)), told(self.hall))
        self.assertEqual(told(hall_behind(TILLS, BEGIN, ())), told(Hall(TILLS, BEGIN)))
        for cut in range(len(self.log) + 1):
            hall = hall_behind(TILLS, BEGIN, self.log[:cut])
            self.assertEqual(hall.log, self.log[:cut])
            for word, argument in self.log[cut:]:
                getattr(hall, word)(argument)
            self.assertEqual(told(hall), told(self.hall))
            self.check(self.log[cut:])

    def test_entries_left_out_put_in_doubled_and_moved(self):
        log = self.log
        for at in range(len(log)):
            self.check(log[:at] + log[at + 1:], log[:at + 1] + log[at:], log[:at] + log[:at:-1] + log[at:at + 1])
            for to in range(len(log)):
                rest = log[:at] + log[at + 1:]
                self.check(rest[:to] + log[at:at + 1] + rest[to:])
            for entry in (("do", 0), ("do", 3), ("step", 0), ("step", 9), ("start", WHOLE), ("start", ()), None, ()):
                self.check(log[:at] + (entry,) + log[at:])
        self.check(log[::-1], log * 2, log * 3)

    def test_an_entry_changed(self):
        for at, (word, argument) in enumerate(self.log):
            entries = [
                [word, argument], (word,), (word, argument, argument), (argument, word), word, (), None,
                (None, argument), (word + " ", argument), (word.upper(), argument), (word.encode(), argument),
                ((word,), argument), ("read", 0), ("span", 0), ("record_of", 0), ("log", 0), ("", 0), (0, 0),
                (True, argument), ("__init__", 0), (["do"], 0), ({"do": 0}, 0), {word: argument}, "do", b"do",
                (word, None), (word, True), (word, False), (word, str(argument)), (word, [argument]),
                (word, (argument,)), (word, -1), (word, 99), (word, 10 ** 399), (word, list(PLAIN)),
                (word, PLAIN), (word, TURNED), (word, 0), (word, 1), (word, 2), ("do", "do"), self.log,
                ("do", argument), ("start", argument), ("step", argument), (word, self.hall), (self.hall, argument),
            ]
            for entry in entries:
                log = self.log[:at] + (entry,) + self.log[at + 1:]
                if self.hall in (entry if isinstance(entry, tuple) else ()):
                    with self.assertRaises(BadEntry) as caught:
                        hall_behind(TILLS, BEGIN, log)
                    self.assertEqual(caught.exception.place, at)
                else:
                    self.check(log)

    def test_logs_that_are_no_tuple(self):
        for log in (list(self.log), None, "", "do", 0, True, {}, {0: ("do", 0)}, [], [self.log], {"do": 0}):
            check_raises_with(self, BadEntry, {"place": 0}, hall_behind, book=TILLS, begin=BEGIN, log=log)
        with self.assertRaises(BadEntry) as caught:
            hall_behind(TILLS, BEGIN, self.hall)
        self.assertEqual(caught.exception.place, 0)

    def test_values_of_other_kinds(self):
        for log in odd_values():
            if log != ():
                check_raises_with(self, BadEntry, {"place": 0}, hall_behind, book=TILLS, begin=BEGIN, log=log)
        for log in ((("do", 0), value) for value in odd_values()):
            check_raises_with(self, BadEntry, {"place": 1}, hall_behind, book=TILLS, begin=BEGIN, log=log)

    def test_a_wrong_begin_counts_first(self):
        for begin in ((5,), [5, 5], (5, True), None, (5, FAR + 1)):
            for log in (self.log, (), [], None, (("do", 9),)):
                check_raises(self, Unfit, hall_behind, book=TILLS, begin=begin, log=log)

    def test_a_log_by_another_book_or_begin(self):
        for book in ((2, ()), (2, ((1, 0),)), (1, ((1,), (2,), (3,)))):
            begin = (5,) * book[0]
            hall, place = Hall(book, begin), 0
            for word, argument in self.log:
                try:
                    getattr(hall, word)(argument)
                except SumsError:
                    break
                place += 1
            check_raises_with(self, BadEntry, {"place": place}, hall_behind, book=book, begin=begin, log=self.log)
        self.assertEqual(hall_behind(TILLS, (0, -FAR), self.log).log, self.log)

    def test_too_many_deeds_and_readers(self):
        deeds, starts = (("do", 0),) * 40, (("start", PLAIN),) * 8
        self.assertEqual(hall_behind(TILLS, BEGIN, deeds + starts).cells, (45, 5))
        self.check(deeds + starts, deeds + (("do", 1),), starts + (("start", WHOLE),), starts + deeds + (("do", 0),))
        steps = tuple(("step", reader) for reader in range(8)) * 2
        self.check(starts + deeds + steps, starts + deeds + steps + (("step", 0),))
        self.assertEqual(len(hall_behind(TILLS, BEGIN, starts + deeds + steps).log), 64)


class WhatHolds(Case):
    def test_totals_records_and_papers(self):
        random, found = Random(143), [0, 0]
        for _ in range(60):
            many = random.randint(1, 5)
            order = random_order(random, many)
            for book in random.sample(books_of_kinds(random, order, 4), 5):
                begin = tuple(random.randint(-9, 9) for _ in range(many))
                hall, places = Hall(book, begin), []
                self.lead(random, hall, book, order, places)
                wholes = [sum(book[1][deed]) for word, deed in hall.log if word == "do"]
                self.assertEqual(hall.total, sum(begin) + sum(wholes))
                record = hall.record_of(0)
                self.assertIsNone(record_error(book, order, record))
                self.assertGreaterEqual(placing_number(book, order, record, tuple(places)), 0)
                for low, place, high in zip(earliest(book, order, record), places, latest(book, order, record)):
                    self.assertTrue(low <= place <= high)
                least, greatest = hall.span(0)
                totals = [sum(record[0]) + sum(sum(book[1][deed]) for deed in record[1][:number])
                          for number in range(places[0], places[-1] + 1)]
                self.assertEqual((least, greatest), (min(totals), max(totals)))
                if has_paper(between_paper, book, order):
                    self.assertTrue(least <= hall.read(0) <= greatest)
                    found[0] += 1
                if has_paper(met_paper, book, order):
                    self.assertIn(hall.read(0), totals)
                    found[1] += 1
        self.assertGreater(min(found), 50)

    def lead(self, random, hall, book, order, places):
        """Do deeds, start a reader, and lead it through all blocks with deeds between; note when each was read."""
        for _ in range(random.randint(0, 4) if book[1] else 0):
            hall.do(random.randrange(len(book[1])))
        reader, number = hall.start(order), 0
        for _ in order:
            for _ in range(random.randint(0, 4) if book[1] else 0):
                hall.do(random.randrange(len(book[1])))
                number += 1
            hall.step(reader)
            places.append(number)

    def test_many_readers_at_once_and_eight_cells(self):
        book = (8, tuple(tuple(99 if cell == at else -1 for cell in range(8)) for at in range(8)))
        hall, model = Hall(book, (0,) * 8), Model(book, (0,) * 8)
        entries = [("start", plain_order(8))] * 4 + [("start", plain_order(8)[::-1])] * 4
        for stand in range(8):
            entries += [("step", reader) for reader in range(8)] + [("do", stand)] * 5
        for word, argument in entries:
            self.assertEqual(getattr(hall, word)(argument), getattr(model, word)(argument))
        self.assertEqual(told(hall), model.told())
        self.assertEqual(len(hall.log), 8 + 64 + 40)
        self.assertEqual(told(hall_behind(book, (0,) * 8, hall.log)), told(hall))


def has_paper(paper_of, book, order):
    try:
        paper_of(book, order)
    except Breaks:
        return False
    return True


if __name__ == "__main__":
    unittest.main()
