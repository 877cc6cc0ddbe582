import unittest
from copy import deepcopy

from passingsums.errors import (
    BadEntry, BadText, Breaks, Impossible, NoBreak, NoReader, SumsError, TooMany, Unfit,
)
from samples import odd_values, shown

BARE = (Unfit, BadText, NoBreak)
HOLDING = (
    (Breaks, "weaving"),
    (Impossible, "block"),
    (NoReader, "given"),
    (BadEntry, "place"),
    (TooMany, "limit"),
)
ALL = BARE + tuple(kind for kind, _ in HOLDING)


class Kinds(unittest.TestCase):
    def test_sums_error_stands_directly_under_value_error(self):
        self.assertEqual(SumsError.__bases__, (ValueError,))

    def test_each_stands_directly_under_sums_error(self):
        for kind in ALL:
            with self.subTest(kind.__name__):
                self.assertEqual(kind.__bases__, (SumsError,))

    def test_none_stands_under_another_one(self):
        for kind in ALL:
            for other in ALL:
                self.assertEqual(issubclass(kind, other), kind is other)

    def test_there_are_eight(self):
        self.assertEqual(len(set(ALL)), 8)


class Made(unittest.TestCase):
    def check_caught(self, error):
        for outer in (ValueError, SumsError, type(error)):
            with self.assertRaises(outer) as caught:
                raise error
            self.assertIs(caught.exception, error)
        for kind in ALL:
            self.assertEqual(isinstance(error, kind), kind is type(error))

    def test_without_arguments(self):
        for kind in BARE:
            with self.subTest(kind.__name__):
                self.check_caught(kind())
                self.assertIsInstance(str(kind()), str)

    def test_they_keep_what_they_were_made_of(self):
        for kind, name in HOLDING:
            for value in odd_values() + [((1, 0, 1), (2, 1, 3)), 40, "a reader", [1, [2, {"k": (3,)}]]]:
                with self.subTest(kind.__name__, value=shown(value)[:80]):
                    kept = deepcopy(value)
                    for error in (kind(value), kind(**{name: value})):
                        self.assertIs(getattr(error, name), value)
                        self.check_caught(error)
                        self.assertIs(getattr(error, name), value)
                        self.assertIsInstance(str(error), str)
                    self.assertEqual(shown(value), shown(kept))

    def test_each_has_its_own_name_alone(self):
        for kind, name in HOLDING:
            for _, other in HOLDING:
                self.assertEqual(hasattr(kind(3), other), other == name)

    def test_two_of_one_kind_keep_apart(self):
        for kind, name in HOLDING:
            first, second = kind(1), kind(True)
            self.assertIs(getattr(first, name), 1)
            self.assertIs(getattr(second, name), True)

    def test_what_they_hold_is_needed(self):
        for kind, name in HOLDING:
            with self.assertRaises(TypeError):
                kind()
            with self.assertRaises(TypeError):
                kind(1, 2)
            with self.assertRaises(TypeError):
                kind(**{name + "s": 1})

    def test_a_copy_holds_the_same(self):
        for kind, name in HOLDING:
            error = deepcopy(kind([(1, 0, 1)]))
            self.assertIs(type(error), kind)
            self.assertEqual(getattr(error, name), [(1, 0, 1)])
        for kind in BARE:
            self.assertIs(type(deepcopy(kind())), kind)


if __name__ == "__main__":
    unittest.main()
