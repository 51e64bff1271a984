"""Promises 2, 4, 6 and 8: the page that shows an effect."""

import copy
import unittest
from itertools import product

from refold.learning import read_effect, test_page
from refold.pages import check_page, fold
from slow import all_falling, all_widths, slow_effect, slow_fold


class LearningTest(unittest.TestCase):
    def learns(self, limit, widths):
        folded = slow_fold(test_page(limit), widths)
        self.assertEqual(read_effect(limit, folded), slow_effect(widths))

    def test_example(self):
        folded = fold(test_page(12), [10, 8, 8, 5])
        self.assertEqual(read_effect(12, folded), [10, 9, 8, 5])

    def test_pages_are_valid(self):
        for limit in range(1, 31):
            page = test_page(limit)
            self.assertIs(type(page), list)
            check_page(page)

    def test_no_widths(self):
        for limit in range(1, 31):
            self.assertEqual(read_effect(limit, test_page(limit)), [])
            self.learns(limit, [])

    def test_one_width(self):
        for limit in range(1, 31):
            for width in range(1, limit + 1):
                self.learns(limit, [width])

    def test_two_and_three_widths(self):
        for limit in range(1, 31):
            widths = range(1, limit + 1)
            for first, second in product(widths, repeat=2):
                self.learns(limit, [first, second])
        for limit in (13, 30):
            widths = range(1, limit + 1, limit // 6)
            for chosen in product(widths, repeat=3):
                self.learns(limit, list(chosen))

    def test_least_widths_one_and_two(self):
        for limit in range(1, 31):
            self.learns(limit, [1])
            self.learns(limit, [limit, 1])
            if limit >= 2:
                self.learns(limit, [2])
                self.learns(limit, [limit, 2])
                self.learns(limit, [limit, limit - 1, 2, limit])
                self.learns(limit, [2, 1])

    def test_every_set_of_widths_up_to_a_small_limit(self):
        for limit in range(1, 11):
            for widths in all_falling(limit):
                self.learns(limit, widths)

    def test_repeated_and_rising_widths(self):
        for limit in range(1, 6):
            for widths in all_widths(4, limit):
                self.learns(limit, widths)
        self.learns(9, [9, 9, 7, 8, 7, 5, 9, 5])
        self.learns(30, [3, 30, 4])

    def test_many_widths_up_to_each_limit(self):
        for limit in range(1, 31):
            falling = list(range(limit, 0, -1))
            for least in range(1, limit + 1):
                for step in range(1, 6):
                    widths = list(range(limit, least - 1, -step))
                    self.learns(limit, widths)
                    self.learns(limit, widths + falling[:limit - least])
                    self.learns(limit, widths[1:] + [least])

    def test_mixed_sets_up_to_each_limit(self):
        # Digits of a growing number in the base 2 choose the widths.
        for limit in range(1, 31):
            chosen = 1
            for _ in range(60):
                chosen = chosen * 1103515245 + 12345
                bits = f"{chosen % 2 ** 61 // 2 ** 20:041b}"
                widths = [w for w in range(limit, 0, -1) if bits[w] == "1"]
                self.learns(limit, widths)
                if len(widths) > 1:
                    self.learns(limit, [w for w in widths if w > 2])

    def test_folds_in_several_calls(self):
        folded = fold(fold(fold(test_page(12), [10, 8]), []), [8, 5])
        self.assertEqual(read_effect(12, folded), [10, 9, 8, 5])

    def test_by_name(self):
        folded = fold(test_page(limit=9), [9, 7])
        self.assertEqual(read_effect(limit=9, folded=folded), [9, 8, 7])
        self.assertEqual(read_effect(folded=folded, limit=9), [9, 8, 7])


class LearningListsTest(unittest.TestCase):
    def test_pages_are_new(self):
        for limit in (1, 2, 3, 4, 30):
            page = test_page(limit)
            wanted = copy.deepcopy(page)
            made = [id(page)] + [id(line) for line in page]
            self.assertEqual(len(set(made)), len(made))
            again = test_page(limit)
            self.assertFalse(set(made) & {id(line) for line in again})
            for line in page:
                line.append("x")
            page.append(["y"])
            self.assertEqual(again, wanted)
            self.assertEqual(test_page(limit), wanted)

    def test_effects_are_new_and_the_folded_page_stays(self):
        for widths in ([], [1], [9], [9, 8, 7], [9, 7, 3]):
            folded = fold(test_page(9), widths)
            before = copy.deepcopy(folded)
            found = read_effect(9, folded)
            self.assertEqual(folded, before)
            found.append(1)
            self.assertEqual(read_effect(9, folded), found[:-1])
            self.assertEqual(folded, before)


if __name__ == "__main__":
    unittest.main()
