"""Values that several tests hand in, and a check that each call of a function goes through."""

from copy import deepcopy

from passingsums.errors import Breaks, TooMany, Unfit


def odd_values():
    """Return values of many kinds, none of which is a book or a tuple of tuples."""
    return [
        None, True, False, 0, 1, -1, 8, 10 ** 399, -10 ** 399,
        "", "form", "1:", "(1, ())", "a\nb", "~" * 20000,
        [], [()], [[]], [1, ()], [(0,)], {}, {"many": 1, "rows": ()}, {1: ()}, {(0,): (0,)},
        (1,), (None, None), ("1", ()), (1, None), (1, "", ()), [nested(18)],
        (0,) * 4000, [0] * 4000, Unfit(), Breaks(()), TooMany([8]),
    ]


def nested(deep):
    """Return () in so many tuples of one item."""
    value = ()
    for _ in range(deep):
        value = (value,)
    return value


def shown(value):
    """Return value written out: unlike ==, this tells True from 1, at each depth."""
    return repr(value)


def check_calls(case, wanted, function, **named):
    """Check a call by place and one by names, each done twice, and that nothing handed in changes."""
    kept = deepcopy(named)
    for _ in range(2):
        told = shown(kept)[:200]
        case.assertEqual(shown(function(*named.values())), shown(wanted), told)
        case.assertEqual(shown(function(**named)), shown(wanted), told)
    case.assertEqual(shown(named), shown(kept))
