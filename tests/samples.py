"""Values that several tests hand in, and a check that each call of a function goes through."""

from copy import deepcopy
from fractions import Fraction
from itertools import combinations

from passingsums.errors import Breaks, TooMany, Unfit


def odd_values():
    """Return values of many kinds, none of which is a book or a tuple of tuples."""
    return [
        None, True, False, 0, 1, -1, 8, 10 ** 399, -10 ** 399,
        "", "form", "1:", "(1, ())", "a\nb", "~" * 20000,
        [], [()], [[]], [1, ()], [(0,)], {}, {"many": 1, "rows": ()}, {1: ()}, {(0,): (0,)},
        (1,), (None, None), ("1", ()), (1, None), (1, "", ()), [nested(18)],
        (0,) * 4000, [0] * 4000, Unfit(), Breaks(()), TooMany([8]),
    ]


def nested(deep):
    """Return () in so many tuples of one item."""
    value = ()
    for _ in range(deep):
        value = (value,)
    return value


def shown(value):
    """Return value written out: unlike ==, this tells True from 1, at each depth."""
    return repr(value)


def check_calls(case, wanted, function, **named):
    """Check a call by place and one by names, each done twice, and that nothing handed in changes."""
    kept = deepcopy(named)
    for _ in range(2):
        told = shown(kept)[:200]
        case.assertEqual(shown(function(*named.values())), shown(wanted), told)
        case.assertEqual(shown(function(**named)), shown(wanted), told)
    case.assertEqual(shown(named), shown(kept))


def check_raises(case, wanted, function, **named):
    """Check that a call by place and one by names, each done twice, raise just this error, made without arguments."""
    check_raises_with(case, wanted, {}, function, **named)


def check_raises_with(case, wanted, held, function, **named):
    """Check as check_raises does; the error holds just what the dict held tells."""
    kept = deepcopy(named)
    for _ in range(2):
        for call in (lambda: function(*named.values()), lambda: function(**named)):
            with case.assertRaises(wanted, msg=shown(kept)[:200]) as caught:
                call()
            case.assertIs(type(caught.exception), wanted)
            case.assertEqual(shown(vars(caught.exception)), shown(held), shown(kept)[:200])
    case.assertEqual(shown(named), shown(kept))


def check_breaks(case, function, **named):
    """Check that a function raises Breaks, the same at each call, and return the weaving that is told."""
    with case.assertRaises(Breaks, msg=shown(named)[:200]) as caught:
        function(**named)
    weaving = caught.exception.weaving
    check_raises_with(case, Breaks, {"weaving": weaving}, function, **named)
    return weaving


def orders_of(cells):
    """Return all orders whose blocks hold the cells of this ascending tuple."""
    if not cells:
        return [()]
    found = []
    for block in blocks_of(cells):
        found += [(block,) + rest for rest in orders_of(tuple(cell for cell in cells if cell not in block))]
    return found


def blocks_of(cells):
    """Return all ascending tuples, but (), of cells of this ascending tuple."""
    return [block for size in range(1, len(cells) + 1) for block in combinations(cells, size)]


def random_book(random, many, number, most):
    """Return a book of so many cells and so many rows, with items up to most, some rows of small ones or noughts."""
    rows = []
    for _ in range(number):
        bound = random.choice((0, 1, min(3, most), most, most, most))
        rows.append(tuple(random.randint(-bound, bound) for _ in range(many)))
    return (many, tuple(rows))


def random_order(random, many):
    """Return an order of so many cells."""
    cells, order = random.sample(range(many), many), []
    while cells:
        size = random.randint(1, min(len(cells), random.choice((1, 2, 8))))
        order.append(tuple(sorted(cells[:size])))
        del cells[:size]
    return tuple(order)


def random_weaving(random, book, order, number, most):
    """Return a weaving of at most so many runs, each of at most so many times: none if there can be none."""
    if len(order) == 1 or not book[1]:
        return ()
    stands = sorted(random.randint(1, len(order) - 1) for _ in range(random.randint(0, number)))
    return tuple((stand, random.randrange(len(book[1])), random.randint(1, most)) for stand in stands)


def books_of_kinds(random, order, number):
    """Return books of at most so many rows, from 2 on: of none, of noughts, of one sign, of both, multiples of one row
    that are right in this order, these with one item off, and rows that hand over within a block."""
    many = sum(len(block) for block in order)
    bound = random.choice((1, 3, 99))
    size = random.randint(2, number)
    likely = [random.randint(0, min(bound, 12)) for _ in range(many)]
    likely = tuple(item + more for item, more in zip(likely, handed_over(random, order, 2)))
    factors = [random.randint(-7, 7) for _ in range(size)]
    multiples = [tuple(factor * item for item in likely) for factor in factors]
    off = list(multiples)
    at, cell = random.randrange(size), random.randrange(many)
    off[at] = off[at][:cell] + (off[at][cell] + random.choice((-1, 1)),) + off[at][cell + 1:]
    signs = [random.choice((1, -1)) for _ in range(size)]
    plus = [tuple(random.randint(0, bound) for _ in range(many)) for _ in range(size)]
    found = [
        [], [(0,) * many] * size, plus, [tuple(-item for item in row) for row in plus],
        [tuple(sign * item for item in row) for sign, row in zip(signs, plus)],
        multiples, off, multiples[:-1] + [handed_over(random, order, 99)],
        [handed_over(random, order, bound) for _ in range(size)],
        [tuple(random.randint(-bound, bound) for _ in range(many)) for _ in range(size)],
    ]
    return [(many, tuple(rows)) for rows in found]


def handed_over(random, order, most):
    """Return a row whose items have the sum 0 in each block."""
    row = [0] * sum(len(block) for block in order)
    for block in order:
        number, (first, last) = random.randint(0, most), (block[0], block[-1])
        row[first] += number
        row[last] -= number
    return tuple(row)


def all_weavings(blocks, number, most):
    """Go through all weavings of at most so many deeds, of so many kinds, each in a run by itself."""
    places = [(stand, deed, 1) for stand in range(1, blocks) for deed in range(number)]
    found = [()]
    for _ in range(most + 1):
        yield from found
        found = [runs + (run,) for runs in found for run in places if not runs or runs[-1][0] <= run[0]]


def changed_values(value):
    """Go through values that differ from value, made of tuples, strings and integers, in one thing, at any depth."""
    if isinstance(value, tuple):
        yield from (list(value), value + (0,), value + value[-1:], value[:-1], value[1:], value[::-1] + ((),), (value,))
        for at, item in enumerate(value):
            for other in changed_values(item):
                yield value[:at] + (other,) + value[at + 1:]
    elif isinstance(value, str):
        yield from (value + " ", value.upper(), value[:-1], "", value.encode(), [value], None)
    else:
        yield from (value + 1, value - 1, -value - (value == 0), str(value), (value,), [value], None)
        if value in (0, 1):
            yield bool(value)


def told_shares(book, order):
    """Return the shares of all deeds, told by adding the cells of the blocks from each stand on."""
    return [
        [sum(row[cell] for block in order[stand:] for cell in block) for stand in range(len(order) + 1)]
        for row in book[1]
    ]


def totals_met(book, begin, weaving):
    """Return ranges of all totals met: that of the begin, and one for each run."""
    total, found = sum(begin), [range(sum(begin), sum(begin) + 1)]
    for _, deed, times in weaving:
        whole = sum(book[1][deed])
        if whole:
            found.append(range(total + whole, total + times * whole + (1 if whole > 0 else -1), whole))
        total += times * whole
    return found


def told_paper(book, order):
    """Tell the paper by its rule in another way, with fractions; None if there is none."""
    shares = told_shares(book, order)
    signs = {(row[0] > 0) - (row[0] < 0) for row in shares} - {0}
    if len(signs) < 2:
        inner = all(0 <= share * sign <= row[0] * sign for row in shares for share in row for sign in signs)
        still = all(share == 0 for row in shares if row[0] == 0 for share in row)
        return ("one sign", sum(signs)) if inner and still else None
    rows = {tuple(Fraction(share, row[0]) for share in row) for row in shares if row[0]}
    rows |= {"unlike" for row in shares if row[0] == 0 and any(row)}
    if len(rows) > 1:
        return None
    row = rows.pop()
    if list(row) != sorted(row, reverse=True):
        return None
    return ("one row", tuple((part.numerator, part.denominator) for part in row))


def strode(book, order, weaving):
    """Go through noughts by order cell by cell, and do each run at once; return what is read and the totals between."""
    cells, read, totals = [0] * book[0], 0, [0]
    for stand, block in enumerate(order):
        for at, deed, times in weaving:
            if at == stand:
                cells = [held + times * item for held, item in zip(cells, book[1][deed])]
                totals.append(sum(cells))
        read += sum(cells[cell] for cell in block)
    return read, totals


def walked(book, order, begin, weaving):
    """Go through order cell by cell and do each deed by itself; return what is read and all totals met."""
    cells, read, totals = list(begin), 0, [sum(begin)]
    for stand, block in enumerate(order):
        for at, deed, times in weaving:
            for _ in range(times if at == stand else 0):
                cells = [held + item for held, item in zip(cells, book[1][deed])]
                totals.append(sum(cells))
        read += sum(cells[cell] for cell in block)
    return read, totals
