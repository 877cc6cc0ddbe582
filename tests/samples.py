"""Values that several tests hand in, and a check that each call of a function goes through."""

from copy import deepcopy
from itertools import combinations

from passingsums.errors import Breaks, TooMany, Unfit


def odd_values():
    """Return values of many kinds, none of which is a book or a tuple of tuples."""
    return [
        None, True, False, 0, 1, -1, 8, 10 ** 399, -10 ** 399,
        "", "form", "1:", "(1, ())", "a\nb", "~" * 20000,
        [], [()], [[]], [1, ()], [(0,)], {}, {"many": 1, "rows": ()}, {1: ()}, {(0,): (0,)},
        (1,), (None, None), ("1", ()), (1, None), (1, "", ()), [nested(18)],
        (0,) * 4000, [0] * 4000, Unfit(), Breaks(()), TooMany([8]),
    ]


def nested(deep):
    """Return () in so many tuples of one item."""
    value = ()
    for _ in range(deep):
        value = (value,)
    return value


def shown(value):
    """Return value written out: unlike ==, this tells True from 1, at each depth."""
    return repr(value)


def check_calls(case, wanted, function, **named):
    """Check a call by place and one by names, each done twice, and that nothing handed in changes."""
    kept = deepcopy(named)
    for _ in range(2):
        told = shown(kept)[:200]
        case.assertEqual(shown(function(*named.values())), shown(wanted), told)
        case.assertEqual(shown(function(**named)), shown(wanted), told)
    case.assertEqual(shown(named), shown(kept))


def check_raises(case, wanted, function, **named):
    """Check that a call by place and one by names, each done twice, raise just this error, made without arguments."""
    kept = deepcopy(named)
    for _ in range(2):
        for call in (lambda: function(*named.values()), lambda: function(**named)):
            with case.assertRaises(wanted, msg=shown(kept)[:200]) as caught:
                call()
            case.assertIs(type(caught.exception), wanted)
            case.assertEqual(vars(caught.exception), {})
    case.assertEqual(shown(named), shown(kept))


def orders_of(cells):
    """Return all orders whose blocks hold the cells of this ascending tuple."""
    if not cells:
        return [()]
    found = []
    for block in blocks_of(cells):
        found += [(block,) + rest for rest in orders_of(tuple(cell for cell in cells if cell not in block))]
    return found


def blocks_of(cells):
    """Return all ascending tuples, but (), of cells of this ascending tuple."""
    return [block for size in range(1, len(cells) + 1) for block in combinations(cells, size)]


def random_book(random, many, number, most):
    """Return a book of so many cells and so many rows, with items up to most, some rows of small ones or noughts."""
    rows = []
    for _ in range(number):
        bound = random.choice((0, 1, min(3, most), most, most, most))
        rows.append(tuple(random.randint(-bound, bound) for _ in range(many)))
    return (many, tuple(rows))


def random_order(random, many):
    """Return an order of so many cells."""
    cells, order = random.sample(range(many), many), []
    while cells:
        size = random.randint(1, min(len(cells), random.choice((1, 2, 8))))
        order.append(tuple(sorted(cells[:size])))
        del cells[:size]
    return tuple(order)


def random_weaving(random, book, order, number, most):
    """Return a weaving of at most so many runs, each of at most so many times: none if there can be none."""
    if len(order) == 1 or not book[1]:
        return ()
    stands = sorted(random.randint(1, len(order) - 1) for _ in range(random.randint(0, number)))
    return tuple((stand, random.randrange(len(book[1])), random.randint(1, most)) for stand in stands)


def walked(book, order, begin, weaving):
    """Go through order cell by cell and do each deed by itself; return what is read and all totals met."""
    cells, read, totals = list(begin), 0, [sum(begin)]
    for stand, block in enumerate(order):
        for at, deed, times in weaving:
            for _ in range(times if at == stand else 0):
                cells = [held + item for held, item in zip(cells, book[1][deed])]
                totals.append(sum(cells))
        read += sum(cells[cell] for cell in block)
    return read, totals
