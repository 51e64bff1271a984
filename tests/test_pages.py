"""Promises 2, 4, 5 and 6: words, lines, pages, widths, folds."""

import copy
import unittest
from itertools import product

from refold.errors import InvalidPage, InvalidWidth
from refold.pages import fold, length
from slow import slow_fold

PAGE = [["aaa", "b", "c"], ["dd", "e"]]
LARGEST = 10**30 - 1


class LengthTest(unittest.TestCase):
    def test_example(self):
        self.assertEqual(length(["aaa", "b", "c"]), 7)

    def test_one_word_has_no_gap(self):
        self.assertEqual(length(["a"]), 1)
        self.assertEqual(length(["a" * 60]), 60)

    def test_each_gap_counts_one(self):
        self.assertEqual(length(["a", "a"]), 3)
        self.assertEqual(length(["dd", "e"]), 4)
        self.assertEqual(length(["a" * 60] * 60), 60 * 60 + 59)

    def test_by_name(self):
        self.assertEqual(length(line=["aaa", "b"]), 5)

    def test_line_stays(self):
        line = ["aaa", "b"]
        length(line)
        self.assertEqual(line, ["aaa", "b"])


class FoldTest(unittest.TestCase):
    def test_example(self):
        self.assertEqual(fold(PAGE, [5]), [["aaa", "b"], ["c"], ["dd", "e"]])
        self.assertEqual(
            fold(PAGE, [6, 4]), [["aaa"], ["b"], ["c"], ["dd", "e"]]
        )
        self.assertEqual(
            fold(PAGE, [4]), [["aaa"], ["b", "c"], ["dd", "e"]]
        )

    def test_empty_page(self):
        for widths in ([], [1], [5, 3], [LARGEST]):
            self.assertEqual(fold([], widths), [])

    def test_no_widths(self):
        self.assertEqual(fold(PAGE, []), PAGE)

    def test_widths_around_the_length_of_the_line(self):
        line = ["aaa", "b", "c"]
        self.assertEqual(fold([line], [8]), [line])
        self.assertEqual(fold([line], [7]), [line])
        self.assertEqual(fold([line], [6]), [["aaa", "b"], ["c"]])

    def test_widths_around_the_length_of_the_first_words(self):
        line = ["aaa", "b", "c"]
        self.assertEqual(fold([line], [6]), [["aaa", "b"], ["c"]])
        self.assertEqual(fold([line], [5]), [["aaa", "b"], ["c"]])
        self.assertEqual(fold([line], [4]), [["aaa"], ["b", "c"]])
        self.assertEqual(fold([line], [3]), [["aaa"], ["b", "c"]])
        self.assertEqual(fold([line], [2]), [["aaa"], ["b"], ["c"]])
        self.assertEqual(fold([line], [1]), [["aaa"], ["b"], ["c"]])

    def test_long_word_stands_alone(self):
        page = [["b", "aaaaaa", "c", "d"]]
        self.assertEqual(fold(page, [3]), [["b"], ["aaaaaa"], ["c", "d"]])
        self.assertEqual(fold([["aaaaaa"]], [1]), [["aaaaaa"]])
        self.assertEqual(fold([["aaaa", "b"]], [3]), [["aaaa"], ["b"]])

    def test_lines_are_never_joined(self):
        page = [["a"], ["b"], ["c", "d"]]
        self.assertEqual(fold(page, [LARGEST]), page)
        self.assertEqual(
            fold([["a", "b"], ["c", "d"]], [1, 9]),
            [["a"], ["b"], ["c"], ["d"]],
        )

    def test_several_widths_differ_from_the_least_one(self):
        line = ["aa", "bb", "cc", "dd"]
        self.assertEqual(fold([line], [5]), [["aa", "bb"], ["cc", "dd"]])
        self.assertEqual(
            fold([line], [8, 5]), [["aa", "bb"], ["cc"], ["dd"]]
        )
        self.assertEqual(
            fold([line], [5, 8]), [["aa", "bb"], ["cc", "dd"]]
        )

    def test_large_widths(self):
        page = [["a" * 60] * 60 for _ in range(40)]
        self.assertEqual(fold(page, [LARGEST] * 40), page)
        self.assertEqual(fold(page, [LARGEST, 3659, 10**20]), page)
        cut = [["a" * 60] * 59, ["a" * 60]] * 40
        self.assertEqual(fold(page, [LARGEST, 3658]), cut)

    def test_against_slow_version(self):
        shapes = product(range(1, 5), repeat=4)
        page = [["a" * n for n in shape] for shape in shapes]
        for many in range(3):
            for widths in product((1, 2, 3, 4, 6, 7, 9, 12, 19), repeat=many):
                widths = list(widths)
                self.assertEqual(fold(page, widths), slow_fold(page, widths))

    def test_largest_pages_in_reasonable_time(self):
        page = [["ab"[k % 2] * (1 + k % 7) for k in range(60)]] * 40
        widths = list(range(90, 10, -2))
        folded = fold(page, widths)
        self.assertEqual(folded, slow_fold(page, widths))
        self.assertEqual(fold(folded, widths[::-1] * 2), fold(folded, [12]))

    def test_by_name_and_by_position(self):
        self.assertEqual(fold(page=PAGE, widths=[4]), fold(PAGE, [4]))
        self.assertEqual(fold(widths=[4], page=PAGE), fold(PAGE, [4]))


class FoldErrorsTest(unittest.TestCase):
    def bad_page(self, page, index, widths=()):
        with self.assertRaises(InvalidPage) as caught:
            fold(page, list(widths))
        self.assertEqual(caught.exception.value, index)

    def bad_width(self, widths, index):
        for page in ([], PAGE):
            with self.assertRaises(InvalidWidth) as caught:
                fold(page, widths)
            self.assertEqual(caught.exception.value, index)

    def test_empty_line(self):
        self.bad_page([[]], 0)
        self.bad_page([["a"], [], ["b"]], 1)

    def test_strings_that_are_not_words(self):
        for string in (
            "", " ", "A", "aB", "Ba", "a1", "1", "a b", " a", "a ", "a\n",
            "a-b", "a_", "`", "{", "a.", "\t", "\u00e9", "a\u00df", "\u0430",
        ):
            self.bad_page([["b"], [string]], 1)
            self.bad_page([["b", string, "c"]], 0)
            self.bad_page([["b", "c"], ["b", "c", string]], 1)

    def test_all_letters_are_letters(self):
        word = "abcdefghijklmnopqrstuvwxyz"
        self.assertEqual(fold([[word, "a", "z"]], [28]), [[word, "a"], ["z"]])

    def test_first_bad_line(self):
        self.bad_page([["a"], ["B"], [], ["C"]], 1)
        self.bad_page([["a"], ["b"], [], ["C"]], 2)
        self.bad_page([["a"]] * 39 + [[""]], 39)

    def test_first_bad_width(self):
        self.bad_width([0], 0)
        self.bad_width([-1], 0)
        self.bad_width([5, 0, -3], 1)
        self.bad_width([5, 4, -LARGEST, 0], 2)
        self.bad_width([1] * 39 + [0], 39)

    def test_width_one_is_valid(self):
        self.assertEqual(fold([["a", "b"]], [1]), [["a"], ["b"]])

    def test_page_before_widths(self):
        self.bad_page([["a"], [""]], 1, [0])
        self.bad_page([[]], 0, [3, -1])

    def test_arguments_stay_after_an_error(self):
        page = [["a", "b"], ["B"]]
        widths = [2, 0]
        for call in (lambda: fold(page, [1]), lambda: fold([["a"]], widths)):
            with self.assertRaises(ValueError):
                call()
        self.assertEqual([page, widths], [[["a", "b"], ["B"]], [2, 0]])


class NewListsTest(unittest.TestCase):
    def assert_new(self, page, folded):
        seen = [id(page)] + [id(line) for line in page]
        made = [id(folded)] + [id(line) for line in folded]
        self.assertEqual(len(set(made)), len(made))
        self.assertFalse(set(seen) & set(made))

    def test_no_list_of_the_argument_and_none_twice(self):
        for page in ([], [["a"]], copy.deepcopy(PAGE), [["a", "b"]] * 3):
            for widths in ([], [1], [4], [LARGEST], [6, 4], [9, 9]):
                self.assert_new(page, fold(page, widths))

    def test_arguments_stay(self):
        page = copy.deepcopy(PAGE)
        widths = [6, 4]
        fold(page, widths)
        self.assertEqual([page, widths], [PAGE, [6, 4]])

    def test_changes_of_a_result_do_not_come_back(self):
        page = copy.deepcopy(PAGE)
        for widths in ([], [5]):
            wanted = fold(page, widths)
            spoilt = fold(page, widths)
            for line in spoilt:
                line.append("x")
            spoilt.append(["y"])
            self.assertEqual(fold(page, widths), wanted)
        self.assertEqual(page, PAGE)


if __name__ == "__main__":
    unittest.main()
