"""Ways that are made of one choice behind another, numbered in the order in which the choices ascend.

At each step choices are told as a list of pairs: a choice, and how many ways go on from it.
"""

from passingsums.books import is_number
from passingsums.errors import Unfit


def pick(choices, value):
    """Return from which choice the way with this number goes on, and its number among those that go on from there.

    Raise Unfit() if value is the number of no way.
    """
    if is_number(value) and value >= 0:
        left = value
        for choice, ways in choices:
            if left < ways:
                return (choice, left)
            left -= ways
    raise Unfit()


def count_ahead(choices, picked):
    """Return how many ways stand ahead of those from the picked choice; raise Unfit() if none goes on from it."""
    ahead = 0
    for choice, ways in choices:
        if choice == picked and ways > 0:
            return ahead
        ahead += ways
    raise Unfit()
