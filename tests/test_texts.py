"""Promises 2 to 5: texts of pages and of widths, shown and read."""

import copy
import itertools
import random
import unittest

from refold.errors import Unreadable
from refold.readings import read_page, read_widths
from refold.texts import show_page, show_widths
from slow import all_widths, page_of_text, widths_of_text

LARGEST = 10**30 - 1
# A text of four thousand characters at most for each kind.
LONG_PAGE = "\n".join(["a b"] * 1000)
LONG_WIDTHS = " > ".join(str(width) for width in range(1500, 930, -1))
PAGES = {
    "": [],
    "a": [["a"]],
    "abcdefghijklmnopqrstuvwxyz": [["abcdefghijklmnopqrstuvwxyz"]],
    "a b": [["a", "b"]],
    "a\nb": [["a"], ["b"]],
    "aaa b\nc": [["aaa", "b"], ["c"]],
    "none": [["none"]],
    "a\na\na a": [["a"], ["a"], ["a", "a"]],
}
WIDTHS = {
    "none": [],
    "1": [1],
    "10 > 8": [10, 8],
    "8 > 10": [8, 10],
    "7 > 7 > 7": [7, 7, 7],
    "9" * 30: [LARGEST],
    "9" * 40 + " > 1": [10**40 - 1, 1],
    "1" + "0" * 39: [10**39],
}
BAD_PAGES = [
    " ", "\n", "a ", " a", "a  b", "a\n", "\na", "a\n\nb", "a \nb", "a\n b",
    "A", "aB", "a1", "1", "a-b", "a,b", "a.", "a\tb", "a\rb", "a\r\nb", "a\r",
    "a\x0bb", "a\x0cb", "a\x1cb", "\u00e9", "a\u00a0b", "a\u2028b", "a\u0085b",
    "\u0430", "['a']", "a > b", "a\n \nb", "  ", "\n\n", " \n",
]
BAD_WIDTHS = [
    "", " ", "10 > 0", "0", "00", "01", "10 > 08", "-1", "+1", "10 > -8",
    "10 > +8", "1 0", "10>8", "10 >8", "10> 8", "10  > 8", "10 >  8", "10 > ",
    " > 8", " > ", ">", "10 > > 8", "10 >  > 8", "10 > 8 >", "10 > 8 > ",
    " 10", "10 ", "10\n", "\n10", "10\n> 8", "10 > 8\n", "10,8", "10 < 8",
    "None", "NONE", "none ", " none", "none\n", "nonenone", "none > 8",
    "8 > none", "none > none", "a", "1a", "1.0", "1e3", "1_0", "0x1", "[]",
    "\u0661", "\u00b2", "1\u00b2", "\uff11", "10\u00a0>\u00a08", "1" + "0" * 40,
    "9" * 41, "5 > " + "9" * 41, "9" * 41 + " > 5", "0" + "9" * 39, "9" * 5000,
]


def spoilt_by_one(text, signs):
    """All texts with one character more, less or changed."""
    for at in range(len(text) + 1):
        for sign in signs:
            yield text[:at] + sign + text[at:]
            yield text[:at] + sign + text[at + 1:]
        yield text[:at] + text[at + 1:]


class TextsCase(unittest.TestCase):
    def reads(self, read, show, text, wanted):
        """Check a reading, None for a text that cannot be read."""
        if wanted is None:
            with self.assertRaises(Unreadable) as caught:
                read(text)
            self.assertEqual(caught.exception.value, text)
            return
        found = read(text)
        self.assertEqual(found, wanted)
        self.assertEqual(show(found), text)

    def reads_page(self, text):
        self.reads(read_page, show_page, text, page_of_text(text))

    def reads_widths(self, text):
        self.reads(read_widths, show_widths, text, widths_of_text(text))


class ShowTest(unittest.TestCase):
    def test_example(self):
        self.assertEqual(show_page([["aaa", "b"], ["c"]]), "aaa b\nc")
        self.assertEqual(show_widths([10, 8]), "10 > 8")

    def test_pages(self):
        for text, page in PAGES.items():
            self.assertEqual(show_page(page), text)

    def test_widths(self):
        for text, widths in WIDTHS.items():
            self.assertEqual(show_widths(widths), text)

    def test_by_name(self):
        self.assertEqual(show_page(page=[["a"]]), "a")
        self.assertEqual(show_widths(widths=[3]), "3")

    def test_arguments_stay(self):
        for page in PAGES.values():
            before = copy.deepcopy(page)
            show_page(page)
            self.assertEqual(page, before)
        for widths in WIDTHS.values():
            before = list(widths)
            show_widths(widths)
            self.assertEqual(widths, before)

    def test_large_values(self):
        page = [["a" * 60] * 60] * 40
        line = " ".join(["a" * 60] * 60)
        self.assertEqual(show_page(page), "\n".join([line] * 40))
        shown = " > ".join(["9" * 30] * 40)
        self.assertEqual(show_widths([LARGEST] * 40), shown)
        self.assertEqual(show_widths([10**45]), "1" + "0" * 45)


class ReadTest(TextsCase):
    def test_example(self):
        with self.assertRaises(Unreadable) as caught:
            read_widths("10 > 0")
        self.assertEqual(caught.exception.value, "10 > 0")

    def test_pages(self):
        for text, page in PAGES.items():
            self.assertEqual(read_page(text), page)
            self.reads_page(text)

    def test_widths(self):
        for text, widths in WIDTHS.items():
            self.assertEqual(read_widths(text), widths)
            self.reads_widths(text)

    def test_no_pages(self):
        for text in BAD_PAGES:
            self.reads(read_page, show_page, text, None)

    def test_no_widths(self):
        for text in BAD_WIDTHS:
            self.reads(read_widths, show_widths, text, None)

    def test_digits_up_to_forty(self):
        for many in range(1, 45):
            for first in "19":
                text = first + "0" * (many - 1)
                wanted = [int(text)] if many <= 40 else None
                self.reads(read_widths, show_widths, text, wanted)

    def test_widths_are_integers(self):
        for width in read_widths("10 > 1 > " + "9" * 40):
            self.assertIs(type(width), int)

    def test_by_name(self):
        self.assertEqual(read_page(text="a b"), [["a", "b"]])
        self.assertEqual(read_widths(text="9 > 8"), [9, 8])
        for read in (read_page, read_widths):
            with self.assertRaises(Unreadable):
                read(text="?")

    def test_results_are_new(self):
        for text in PAGES:
            found = read_page(text)
            made = [id(found)] + [id(line) for line in found]
            self.assertEqual(len(set(made)), len(made))
            for line in found:
                line.append("x")
            found.append(["y"])
            self.assertEqual(read_page(text), PAGES[text])
        for text in WIDTHS:
            read_widths(text).append(3)
            self.assertEqual(read_widths(text), WIDTHS[text])


class SpoiltTest(TextsCase):
    def test_all_short_texts(self):
        for many in range(6):
            for signs in itertools.product("ab \n", repeat=many):
                self.reads_page("".join(signs))
            for signs in itertools.product("01 >-", repeat=many):
                self.reads_widths("".join(signs))

    def test_pages_spoilt_by_one_sign(self):
        for text in list(PAGES) + ["aaa b\nc dd\ne"]:
            for spoilt in spoilt_by_one(text, "aZ 0->\n\t\r.\u00e9~"):
                self.reads_page(spoilt)

    def test_widths_spoilt_by_one_sign(self):
        for text in list(WIDTHS) + ["10 > 8 > 700", "1 > 2"]:
            for spoilt in spoilt_by_one(text, "019 >-+.,_na\n\t<=~"):
                self.reads_widths(spoilt)

    def test_spoilt_by_two_or_three_signs(self):
        chance = random.Random(3)
        for _ in range(20000):
            page = chance.choice(["aaa b\nc", "a b c", "a\nb\nc dd", ""])
            widths = chance.choice(["10 > 8", "7", "none", "9 > 80 > 1"])
            for _ in range(chance.randint(2, 3)):
                at = chance.randint(0, 12)
                more = chance.randint(0, 1)
                sign = chance.choice(["", " ", "\n", "a", "B", "1"])
                page = page[:at] + sign + page[at + more:]
                sign = chance.choice(["", " ", ">", " > ", "0", "5", "-"])
                widths = widths[:at] + sign + widths[at + more:]
            self.reads_page(page)
            self.reads_widths(widths)

    def test_long_texts_spoilt(self):
        chance = random.Random(4)
        for _ in range(60):
            at = chance.randint(0, len(LONG_WIDTHS))
            for sign in (" ", "\n", "0", "-", ">", "a", ""):
                text = LONG_PAGE[:at] + sign + LONG_PAGE[at + 1:]
                self.reads_page(text)
                text = LONG_WIDTHS[:at] + sign + LONG_WIDTHS[at + 1:]
                self.reads_widths(text)


class RoundTest(TextsCase):
    def test_small_pages(self):
        lines = [["a"], ["none"], ["a", "b"], ["bb", "a", "a"]]
        for many in range(4):
            for page in itertools.product(lines, repeat=many):
                self.assertEqual(read_page(show_page(list(page))), list(page))

    def test_small_lists(self):
        for widths in all_widths(3, 11):
            self.assertEqual(read_widths(show_widths(widths)), widths)

    def test_large_values(self):
        for page in ([["a" * 60] * 60] * 40, [["z"]] * 2400):
            self.assertEqual(read_page(show_page(page)), page)
        for widths in ([LARGEST] * 40, list(range(1, 6001)), [10**40 - 1] * 9):
            self.assertEqual(read_widths(show_widths(widths)), widths)

    def test_long_texts(self):
        for text in (LONG_PAGE, "a" * 4000, "a\n" * 1999 + "a", "a " * 1999 + "b"):
            self.assertLessEqual(len(text), 4000)
            self.reads_page(text)
        for text in (LONG_WIDTHS, "1 > " * 999 + "2", " > ".join(["9" * 40] * 93)):
            self.assertLessEqual(len(text), 4000)
            self.reads_widths(text)


if __name__ == "__main__":
    unittest.main()
