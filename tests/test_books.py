import unittest
from itertools import permutations, product

from passingsums.books import book_error, order_error, plain_order
from samples import blocks_of, check_calls, nested, odd_values, orders_of, shown

LOT = (3, ((1, -1, 1), (0, 0, 1)))
LINE = (2, ((1, 2), (-2, -4), (3, 6)))


class Examples(unittest.TestCase):
    """The examples of the document, as they stand there."""

    def test_books(self):
        values = (LOT, LINE, (1, ()), (0, ()), (9, ()), (2, [(1, 1)]), (True, ((1,),)), [1, ()])
        wanted = [None, None, None, "form", "form", "form", "form", "form"]
        self.assertEqual(shown([book_error(value) for value in values]), shown(wanted))

    def test_rows(self):
        values = (((1, 1), (1,)), ((1, 100),), ((0, True),), ((0, 0),) * 8, ((0, 0),) * 9)
        wanted = [("row", 1), ("row", 0), ("row", 0), None, "form"]
        self.assertEqual(shown([book_error((2, rows)) for rows in values]), shown(wanted))

    def test_orders(self):
        values = (
            ((0,), (1,), (2,)), ((1,), (0, 2)), ((0, 1, 2),), (0, 1, 2),
            ((0,), ()), ((0,), (2, 1)), ((0,), (3,)), ((0, 0), (1,), (2,)),
        )
        wanted = [None, None, None, "form", ("block", 1), ("block", 1), ("block", 1), ("block", 0)]
        self.assertEqual(shown([order_error(3, value) for value in values]), shown(wanted))

    def test_covers(self):
        values = (((0, 1), (1, 2)), ((0,), (0,)), ((2,),), ())
        wanted = [("twice", 1), ("twice", 0), ("lacks", 0), ("lacks", 0)]
        self.assertEqual(shown([order_error(3, value) for value in values]), shown(wanted))

    def test_plain_orders(self):
        self.assertEqual(shown((plain_order(3), plain_order(1))), shown((((0,), (1,), (2,)), ((0,),))))


class BookError(unittest.TestCase):
    def check(self, wanted, *values):
        for value in values:
            with self.subTest(shown(value)[:80]):
                check_calls(self, wanted, book_error, value=value)

    def test_books_of_each_size(self):
        for many in range(1, 9):
            for number in range(9):
                self.check(None, (many, ((0,) * many,) * number))
                self.check(None, (many, tuple(tuple(range(place, place + many)) for place in range(number))))

    def test_numbers_of_cells(self):
        self.check("form", (0, ()), (9, ()), (-1, ()), (10 ** 399, ()), (-10 ** 399, ()))
        self.check("form", (0, ((),)), (9, ((0,) * 9,)), (9, ((0,) * 8,)))

    def test_a_number_of_cells_that_is_no_integer(self):
        for rows in ((), ((1,),), ((True,),)):
            self.check("form", (True, rows), (False, rows), (None, rows), ("1", rows), ((1,), rows), ([1], rows))

    def test_too_many_rows(self):
        self.check(None, (2, ((0, 0),) * 8))
        self.check("form", (2, ((0, 0),) * 9), (8, ((0,) * 8,) * 9), (2, ((0, 0),) * 8 + (None,)), (1, (0,) * 3999))

    def test_too_many_rows_tell_more_than_a_wrong_row(self):
        self.check("form", (2, ((0,),) * 9), (2, (None,) * 9))
        self.check(("row", 0), (2, ((0,),) * 8), (2, (None,) * 8))

    def test_least_and_greatest_items(self):
        for many in (1, 2, 5, 8):
            for at in range(many):
                for item in (-99, 99, 0, 1, -1, 98, -98):
                    self.check(None, (many, (row_with(many, at, item),)))
                for item in (-100, 100, 10 ** 399, -10 ** 399):
                    self.check(("row", 0), (many, (row_with(many, at, item),)))

    def test_items_that_are_no_integers(self):
        for many in (1, 2, 8):
            for at in range(many):
                for item in (True, False, None, "1", "", (), (1,), [1], {}, {1: 1}):
                    self.check(("row", 0), (many, (row_with(many, at, item),)))
                    self.check(("row", 1), (many, ((0,) * many, row_with(many, at, item))))

    def test_rows_too_short_or_too_long(self):
        for many in range(1, 9):
            self.check(("row", 0), (many, ((0,) * (many - 1),)), (many, ((0,) * (many + 1),)), (many, ((),)))
            self.check(("row", 1), (many, ((0,) * many, (0,) * (many + 1))))
            self.check(("row", 7), (many, ((0,) * many,) * 7 + ((0,) * (many - 1),)))

    def test_lists_in_place_of_tuples(self):
        self.check(("row", 0), (2, ([0, 0],)), (1, ([],)), (2, ([0, 0], (0,))))
        self.check(("row", 1), (2, ((0, 0), [0, 0])))
        self.check("form", (2, [(0, 0)]), (2, []), (2, [[0, 0]]), [2, ((0, 0),)], [2, [[0, 0]]], [1, ()])

    def test_rows_of_other_kinds(self):
        for row in (None, True, 0, 2, 10 ** 399, "", "00", {}, {0: 0, 1: 0}, ((0, 0),), ((0,), (0,))):
            self.check(("row", 0), (2, (row,)), (2, (row, (0, 0))))
            self.check(("row", 2), (2, ((0, 0), (1, 1), row, None)))

    def test_rows_are_no_tuple(self):
        for rows in (None, True, 0, 1, "", "00", {}, {0: (0, 0)}, [], [()]):
            self.check("form", (2, rows), (1, rows))

    def test_more_or_fewer_than_two_items(self):
        self.check("form", (), (2,), (((0, 0),),), (2, ((0, 0),), ()), (2, (), ()), (1, ()) * 2, LOT + (None,))

    def test_values_of_other_kinds(self):
        self.check("form", *odd_values())
        self.check("form", (LOT, ()), (LOT,), (LOT, LINE), (1, LOT, LINE), ((), 1), nested(20))
        self.check(("row", 0), (1, nested(18)), (1, (nested(1), (0,))), (8, (LOT,)))

    def test_the_first_wrong_row_is_told(self):
        good, wrong = (1, 2), ((1,), (1, 2, 3), (1, 100), (True, 1), [1, 2], None)
        for number in range(1, 9):
            for first in range(number):
                for fault in wrong:
                    self.check(("row", first), (2, (good,) * first + (fault,) + (good,) * (number - first - 1)))
                    self.check(("row", first), (2, (good,) * first + (fault,) * (number - first)))

    def test_places_of_wrong_rows_among_all_kinds(self):
        good, wrong = [(0, 0), (-99, 99)], [(0,), (0, 0, 0), (0, -100), [0, 0], (False, 0), "00"]
        for rows in product(good + wrong, repeat=3):
            faults = [place for place, row in enumerate(rows) if shown(row) in map(shown, wrong)]
            wanted = ("row", faults[0]) if faults else None
            self.assertEqual(shown(book_error((2, rows))), shown(wanted), rows)


def row_with(many, at, item):
    """Return a row of so many cells that holds item at one place, noughts at the others."""
    return (0,) * at + (item,) + (0,) * (many - at - 1)


def order_fault(many, value):
    """Tell what is wrong with value in another way than the package does: by a list of all blocks."""
    if type(value) is not tuple or not all(type(item) is tuple for item in value):
        return "form"
    right = [shown(block) for block in blocks_of(tuple(range(many)))]
    wrong = [place for place, block in enumerate(value) if shown(block) not in right]
    if wrong:
        return ("block", wrong[0])
    read = sorted(cell for block in value for cell in block)
    twice = [cell for cell, beyond in zip(read, read[1:]) if cell == beyond]
    if twice:
        return ("twice", twice[0])
    lacking = sorted(set(range(many)) - set(read))
    return ("lacks", lacking[0]) if lacking else None


class OrderError(unittest.TestCase):
    def check(self, wanted, many, *values):
        for value in values:
            with self.subTest(shown(value)[:80], many=many):
                check_calls(self, wanted, order_error, many=many, value=value)

    def test_all_orders_of_few_cells(self):
        numbers = [1, 3, 13, 75, 541, 4683]
        for many in range(1, 7):
            orders = orders_of(tuple(range(many)))
            self.assertEqual(len(orders), numbers[many - 1])
            for order in orders:
                self.assertIsNone(order_error(many, order))

    def test_orders_of_seven_and_eight_cells(self):
        for many in (7, 8):
            for size in range(1, many + 1):
                cells = tuple(range(many))
                blocks = tuple(cells[at:at + size] for at in range(0, many, size))
                self.check(None, many, blocks, blocks[::-1], tuple(cells[at::size] for at in range(size)))

    def test_all_plain_orders(self):
        for many in range(1, 9):
            for cells in permutations(range(many)):
                self.assertIsNone(order_error(many, tuple((cell,) for cell in cells)))

    def test_orders_of_other_numbers_of_cells(self):
        for many in range(1, 9):
            for other in range(1, 9):
                wanted = None
                if other < many:
                    wanted = ("lacks", other)
                if other > many:
                    wanted = ("block", many)
                self.check(wanted, many, tuple((cell,) for cell in range(other)))

    def test_form(self):
        self.check("form", 3, [(0,), (1,), (2,)], [[0], [1], [2]], ([0], (1,), (2,)), ((0,), (1,), [2]), [])
        self.check("form", 3, (0, 1, 2), ((0,), (1,), 2), (None,), ((0,), "12"), ("012",), ((0,), {}), ({0: 1},))
        self.check("form", 1, (0,), [(0,)], ([0],), (True,), ("0",), (None, (0,)), ([],))

    def test_form_is_told_ahead_of_all_else(self):
        self.check("form", 2, ((), [0]), ((1, 0), [0]), ((5,), None), ((True,), 0), ((0,), (0,), [1]), ((0,), 1))
        self.check("form", 2, ([0], ()), ([0], (1, 0)), (None, (5,)), (0, (True,)), ([1], (0,), (0,)))

    def test_empty_blocks(self):
        for many in range(1, 9):
            self.check(("block", 0), many, ((),), ((), tuple(range(many))), ((), ()))
            self.check(("block", 1), many, (tuple(range(many)), ()), ((0,), (), ()))

    def test_cells_out_of_order(self):
        self.check(("block", 0), 3, ((1, 0), (2,)), ((2, 1, 0),), ((0, 2, 1),), ((1, 0, 2),))
        self.check(("block", 1), 3, ((2,), (1, 0)), ((0,), (2, 1)), ((0,), (2, 1), (1, 0)))

    def test_a_cell_twice_in_one_block(self):
        self.check(("block", 0), 3, ((0, 0),), ((0, 0), (1,), (2,)), ((0, 1, 1, 2),), ((0, 1, 2, 2),), ((0, 1, 0, 2),))
        self.check(("block", 1), 3, ((0,), (1, 1), (2,)), ((0, 1), (2, 2)))

    def test_cells_that_are_none(self):
        for many in range(1, 9):
            whole = tuple(range(many))
            for cell in (many, many + 1, -1, -many, True, False, None, "0", (0,), [0], 10 ** 399, -10 ** 399):
                self.check(("block", 0), many, ((cell,),), ((cell,), whole), (whole[:-1] + (cell,),))
                self.check(("block", 1), many, (whole, (cell,)), (whole, (cell,), ()))
        self.check(("block", 0), 2, ((-1, 0), (1,)), ((0, True),), ((False, 1),), ((0, 2),), ((-2, -1),))

    def test_the_first_wrong_block_is_told(self):
        wrong = ((), (1, 0), (0, 0), (4,), (-1,), (True,), (None,), ("0",))
        for first in range(4):
            for fault in wrong:
                ahead = tuple((cell,) for cell in range(first))
                self.check(("block", first), 4, ahead + (fault,), ahead + (fault, (3,)))
                self.check(("block", first), 4, *[ahead + (fault, other) for other in wrong])

    def test_cells_in_two_blocks(self):
        for many in range(2, 9):
            whole = tuple(range(many))
            for cell in whole:
                self.check(("twice", cell), many, (whole, (cell,)), ((cell,), whole), ((cell,),) * 2, ((cell,),) * 5)
                self.check(("twice", cell), many, (whole[cell:], whole[cell:]), (whole, whole[cell:]))
        self.check(("twice", 1), 4, ((3,), (2, 3), (1, 2), (0, 1)), ((3,), (3,), (1,), (1,)))

    def test_cells_in_no_block(self):
        for many in range(1, 9):
            whole = tuple(range(many))
            self.check(("lacks", 0), many, ())
            for cell in whole:
                if many > 1:
                    rest = tuple(other for other in whole if other != cell)
                    self.check(("lacks", cell), many, (rest,), tuple((other,) for other in rest[::-1]))
                if cell > 0:
                    self.check(("lacks", cell), many, (whole[:cell],), ((cell - 1,),) + (whole[:cell - 1],) * (cell > 1))

    def test_a_wrong_block_is_told_ahead_of_twice_and_lacks(self):
        self.check(("block", 2), 3, ((0,), (0,), ()), ((1,), (1,), (2, 0)), ((2,), (0,), (3,)))
        self.check(("block", 1), 3, ((2,), ()), ((2,), (True,)), ((0, 1), (2, 2)), ((0,), (5,), (0,)))

    def test_twice_is_told_ahead_of_lacks(self):
        self.check(("twice", 2), 3, ((2,), (2,)), ((1,), (2,), (2,)), ((1, 2), (2,)))
        self.check(("twice", 1), 3, ((1,), (1,)), ((1, 2), (1, 2)), ((1,), (2,), (1, 2)))

    def test_three_faults_at_once(self):
        self.check("form", 3, ((1,), (1,), (), 0), (0, (), (1,), (1,)))
        self.check(("block", 0), 3, ((2, 1), (1,), (1,)))

    def test_values_of_other_kinds(self):
        for value in odd_values():
            for many in (1, 3, 8):
                self.check("form", many, value)
        for many in (1, 3, 8):
            self.check("form", many, LOT, LINE)
            self.check(("block", 0), many, (((),),), (((0,),),), ((None,), (None,)), (LOT,), nested(20))

    def test_as_another_way_tells_it(self):
        items = [
            (), (0,), (1,), (0, 1), (1, 0), (0, 0), (2,), (0, 2), (-1,), (True,), (False, 1), (None,), ((0,),), [0], 0,
        ]
        values = [value for size in range(4) for value in product(items, repeat=size)]
        blocks = blocks_of((0, 1, 2)) + [(2, 1), (3,)]
        values += [value for size in range(5) for value in product(blocks, repeat=size)]
        for value in values:
            for many in (1, 2, 3):
                found, wanted = order_error(many, value), order_fault(many, value)
                if shown(found) != shown(wanted):
                    self.fail(f"order_error({many}, {value}) is {found}, not {wanted}")


class PlainOrder(unittest.TestCase):
    def test_one_cell_to_eight(self):
        wanted = ()
        for many in range(1, 9):
            wanted += ((many - 1,),)
            check_calls(self, wanted, plain_order, many=many)

    def test_they_are_orders(self):
        for many in range(1, 9):
            self.assertIsNone(order_error(many, plain_order(many)))


if __name__ == "__main__":
    unittest.main()
