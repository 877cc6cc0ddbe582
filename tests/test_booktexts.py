import re
import unittest
from itertools import product
from random import Random

from passingsums.books import book_error
from passingsums.booktexts import book_text, read_book
from passingsums.errors import BadText
from samples import check_calls, check_raises, nested, odd_values, random_book, shown

LOT = (3, ((1, -1, 1), (0, 0, 1)))
LINE = (2, ((1, 2), (-2, -4), (3, 6)))
SIGNS = "0123456789-+,: \n\t.x"

# Books and their texts, told by hand.
TEXTS = {
    "1:": (1, ()),
    "8:": (8, ()),
    "1: 0": (1, ((0,),)),
    "1: -1": (1, ((-1,),)),
    "1: 99 -99 10 -10 9 -9 0 1": (1, ((99,), (-99,), (10,), (-10,), (9,), (-9,), (0,), (1,))),
    "2: 0,0": (2, ((0, 0),)),
    "2: 1,2 -2,-4 3,6": LINE,
    "3: 1,-1,1 0,0,1": LOT,
    "8: 0,0,0,0,0,0,0,0": (8, ((0,) * 8,)),
    "8: 1,-2,30,-40,55,-66,7,-88 -1,2,-30,40,-55,66,-7,88":
        (8, ((1, -2, 30, -40, 55, -66, 7, -88), (-1, 2, -30, 40, -55, 66, -7, 88))),
    "8:" + " -99,-99,-99,-99,-99,-99,-99,-99" * 8: (8, ((-99,) * 8,) * 8),
}


def is_text(text):
    """Tell in another way than the package does whether this is the text of a book."""
    item = "(?:0|-?[1-9][0-9]?)"
    found = re.fullmatch(f"([1-8]):((?: {item}(?:,{item})*){{0,8}})", text)
    return found is not None and all(word.count(",") == int(found[1]) - 1 for word in found[2].split())


def near_texts(text):
    """Return all texts with one sign of text left out, put in, changed, or exchanged with the next one."""
    found = []
    for at in range(len(text) + 1):
        found += [text[:at] + sign + text[at:] for sign in SIGNS]
        if at < len(text):
            found += [text[:at] + sign + text[at + 1:] for sign in SIGNS]
            found += [text[:at] + text[at + 1:], text[:at] + text[at:at + 2][::-1] + text[at + 2:]]
    return found


class Examples(unittest.TestCase):
    """The examples of the document, as they stand there."""

    def test_texts(self):
        found = book_text(LOT), book_text((1, ())), read_book("2: 1,2 -2,-4 3,6") == LINE, read_book("1: 0 -99")
        self.assertEqual(shown(found), shown(("3: 1,-1,1 0,0,1", "1:", True, (1, ((0,), (-99,))))))

    def test_what_is_no_text(self):
        for text in ("2: 1,2,3", "2: 1,-0", "2: 1,02"):
            check_raises(self, BadText, read_book, value=text)


class Texts(unittest.TestCase):
    def check_both_ways(self, book, text):
        check_calls(self, text, book_text, book=book)
        check_calls(self, book, read_book, value=text)

    def test_told_by_hand(self):
        for text, book in TEXTS.items():
            with self.subTest(text):
                self.check_both_ways(book, text)

    def test_each_item(self):
        for item in range(-99, 100):
            self.check_both_ways((1, ((item,),)), "1: " + str(item))
            self.check_both_ways((2, ((item, 0), (0, item))), f"2: {item},0 0,{item}")

    def test_each_number_of_cells_and_rows(self):
        for many in range(1, 9):
            for number in range(9):
                text = f"{many}:" + (" " + ",".join(["-7"] * many)) * number
                self.check_both_ways((many, ((-7,) * many,) * number), text)

    def test_random_books(self):
        random = Random(6)
        for _ in range(300):
            book = random_book(random, random.randint(1, 8), random.randint(0, 8), 99)
            text = book_text(book)
            self.assertTrue(is_text(text), text)
            self.check_both_ways(book, text)


class BadTexts(unittest.TestCase):
    def check(self, *values):
        for value in values:
            with self.subTest(shown(value)[:80]):
                check_raises(self, BadText, read_book, value=value)

    def test_one_sign_off(self):
        for text in TEXTS:
            for near in near_texts(text):
                if is_text(near):
                    book = read_book(near)
                    self.assertIsNone(book_error(book), near)
                    self.assertEqual(book_text(book), near)
                else:
                    with self.assertRaises(BadText, msg=shown(near)):
                        read_book(near)

    def test_all_short_texts(self):
        for size in range(6):
            for text in map("".join, product("109-,: ", repeat=size)):
                if is_text(text):
                    self.assertEqual(book_text(read_book(text)), text)
                else:
                    self.assertRaises(BadText, read_book, text)

    def test_the_empty_text_and_parts(self):
        self.check("", " ", ":", "1", "8", "1 ", " 1:", "1 :", ":1", ": 1", "1::", "1:1", "1:0", "\n", "1:\n", "\n1:")
        self.check("1: 1:", "1: 1 1:", "1:: 1", "1: :1")

    def test_numbers_of_cells(self):
        self.check("0:", "9:", "10:", "-1:", "+1:", "01:", "08:", "1.0:", "1_0:", "1e0:", "0x1:", "one:", "99:", "100:")
        self.check("0: ", "-0:", "0: 0", "9: " + ",".join("0" * 9), "00:", "1,:", ",1:", "1,1:", "1 1:")

    def test_blanks(self):
        self.check("1: ", "1:  ", "1:  1", "1: 1 ", "1: 1  1", "2: 1, 2", "2: 1 ,2", "2:1,2", "2: 1,2 3,4 ", " 2: 1,2")
        self.check("1:\t1", "1:\n1", "1: 1\n", "1: 1\n2", "1: 1\r", "1: 1\x0b2", "1:\u00a01", "1: 1\u20031", "1: \n1")

    def test_commas(self):
        self.check("2: ,1,2", "2: 1,,2", "2: 1,2,", "2: ,", "1: ,", "1: 1,", "1: ,1", "2: 1;2", "2: 1.2", "3: 1,,2")

    def test_rows_too_short_or_too_long(self):
        for many in range(1, 9):
            for other in range(1, 10):
                if other != many:
                    word = " " + ",".join(["1"] * other)
                    right = " " + ",".join(["1"] * many)
                    self.check(f"{many}:" + word, f"{many}:" + right + word, f"{many}:" + word + right)

    def test_decimals(self):
        wrong = ["-0", "+0", "+1", "00", "01", "-01", "001", "1-", "--1", "-", "+", "- 1", "1_0", "1e1", "0x1", "0b1"]
        wrong += ["1.", "1.0", "a", "None", "True", "'1'", "(1)", "\u0661", "\uff11", "\u00b2", "1\u0661", "\u22121"]
        for item in wrong:
            self.check("1: " + item, "2: 1," + item, "2: " + item + ",1", "1: 1 " + item, "1: " + item + " 1")

    def test_items_beyond(self):
        for item in ("100", "-100", "101", "999", "-999", "1000", "099", "-099", "9" * 400, "-" + "9" * 400):
            self.check("1: " + item, "2: 0," + item, "8: 0,0,0,0,0,0,0," + item)

    def test_nine_rows(self):
        for many in (1, 2, 8):
            word = " " + ",".join(["1"] * many)
            check_calls(self, (many, ((1,) * many,) * 8), read_book, value=f"{many}:" + word * 8)
            self.check(f"{many}:" + word * 9, f"{many}:" + word * 100)

    def test_very_long_texts(self):
        for sign in "019-,: \nx":
            self.check(sign * 20000, "1:" + sign * 19998, "1: " + sign * 19997, "1: 1" + sign * 19996)
        self.check("1:" + " 1" * 9999, "1: " + "1," * 9998 + "1", "0" * 19998 + "1:", "9" * 19999 + ":")
        self.check("1" * 5000 + ":", "1: 1" + "0" * 5000, "1: -" + "1" * 5000, "1: " + "0" * 19996 + "1")

    def test_values_of_other_kinds(self):
        self.check(*[value for value in odd_values() if shown(value) != "'1:'"])
        self.check(LOT, LINE, (1, ()), [1, ()], {"1:": ()}, ("1:",), ["1:"], [("1:",)], {1: "1:"}, nested(20))
        self.check(b"1:", 11, True, BadText(), ("1:", "2:"), [list("1:")], tuple("1:"), list("1: 1"))


if __name__ == "__main__":
    unittest.main()
