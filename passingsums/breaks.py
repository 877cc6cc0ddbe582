"""How few deeds break a book, and how far off a few deeds can lead."""

from passingsums.errors import NoBreak
from passingsums.shares import all_shares, is_part
from passingsums.weavings import run_pairs


def two_runs(book, order):
    """Return the least number of deeds by which at most two runs break book, and such a weaving.

    Raise NoBreak() if there is none.
    """
    shares = all_shares(book, order)
    alone = _breaking_run(shares)
    if alone is not None:
        return (1, (alone,))
    pairs = _breaking_pairs(shares, len(order))
    if len(pairs) == 0:
        raise NoBreak()
    return min(pairs)


def _breaking_run(shares):
    """Return a run of one deed that breaks the book by itself, None if there is none."""
    for deed, row in enumerate(shares):
        # The first share is the whole and the last one 0: neither is ever off.
        for stand, share in enumerate(row):
            if not is_part(share, row[0]):
                return (stand, deed, 1)
    return None


def _breaking_pairs(shares, blocks):
    """Return a list of pairs of deeds and weaving: for any two that break the book, the fewest times.

    No deed breaks the book by itself; so two with wholes of one sign don't, either.
    """
    found = []
    for (stand, first), (later, second) in run_pairs(blocks, len(shares)):
        if shares[first][0] * shares[second][0] < 0:
            times = _fewest_times(_parts(shares[first], stand), _parts(shares[second], later))
            if times is not None:
                found.append((sum(times), ((stand, first, times[0]), (later, second, times[1]))))
    return found


def _parts(row, stand):
    """Return the pair of the seen and the unseen part of a deed with these shares, without their signs."""
    return (abs(row[stand]), abs(row[0] - row[stand]))


def _fewest_times(first, second):
    """Return how many times each of two deeds is done to break the book, None if they can't.

    The deeds are given by their seen and unseen parts. What is read lies beyond the
    totals ahead if more is seen of the second deed than of the first one, and beyond
    the last total if less of the second one than of the first one is unseen.
    """
    seen, unseen = first
    later_seen, later_unseen = second
    if seen * later_unseen >= unseen * later_seen:
        return None
    later_times, times = _simplest_between((seen, later_seen), (unseen, later_unseen))
    return (times, later_times)


def _simplest_between(low, high):
    """Return the fraction strictly between two that has the least parts, as a pair (above, below).

    low is less than high, and not below 0. high may have 0 below: then it is above all fractions.
    """
    floor = low[0] // low[1]
    if (floor + 1) * high[1] < high[0]:
        return (floor + 1, 1)
    # No integer lies between them: less floor both lie from 0 to 1, and turned over from 1 on.
    turned = _simplest_between(
        (high[1], high[0] - floor * high[1]),
        (low[1], low[0] - floor * low[1]),
    )
    return (floor * turned[0] + turned[1], turned[0])


def far_off(book, order, most):
    """Return how far below the least total met, and above the greatest one, at most so many deeds let one read."""
    shares = all_shares(book, order)
    mirrored = [tuple([-share for share in row]) for row in shares]
    return (_far_below(shares, len(order), most), _far_below(mirrored, len(order), most))


def _far_below(shares, blocks, most):
    """Return how far below the least total met one can read.

    An end is what is done from some stand on, told as a pair: what is read of it, and how
    far below the total where it begins the totals go. ends[k] are those of at most k deeds.
    """
    ends = [[(0, 0)]] + [[(0, 0)] for _ in range(most)]
    for stand in range(blocks - 1, 0, -1):
        # From few deeds on, so that several deeds can be done at one stand.
        for deeds in range(1, most + 1):
            longer = [_behind(row, stand, end) for row in shares for end in ends[deeds - 1]]
            ends[deeds] = _unbeaten(ends[deeds] + longer)
    return max([-read - fall for read, fall in ends[-1]])


def _behind(row, stand, end):
    """Return the end that begins with the deed of these shares at the stand, and goes on by end."""
    read, fall = end
    return (read + row[stand], max(0, fall - row[0]))


def _unbeaten(ends):
    """Return those ends, each once, of which no other one reads less and falls less far.

    Whatever is done ahead of an end that another one beats, the other one leads as far below.
    """
    kept = []
    for end in sorted(ends):
        if len(kept) == 0 or end[1] < kept[-1][1]:
            kept.append(end)
    return kept
