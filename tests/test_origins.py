"""Promises 2 to 6: the origins of a page."""

import copy
import itertools
import random
import unittest

from refold.errors import InvalidPage, InvalidWidth
from refold.origins import count_origins, origins, sure_breaks
from refold.pages import fold
from slow import (
    all_falling,
    all_widths,
    slow_count,
    slow_fold,
    slow_join,
    slow_length,
    slow_numbers,
    slow_sure,
)

PAGE = [["aaa"], ["b"], ["cc", "d"]]
LARGEST = 10**30 - 1
# What is asked of a page and widths, for what holds of all three alike.
CALLS = (count_origins, lambda *both: next(origins(*both)), sure_breaks)


def first_of(walk, many):
    return list(itertools.islice(walk, many))


class OriginsCase(unittest.TestCase):
    def comes_from(self, page, widths, numbers):
        """Check the origins by the numbers of lines of each."""
        wanted = [slow_join(page, each) for each in numbers]
        self.assertEqual(list(origins(page, widths)), wanted)
        self.assertEqual(count_origins(page, widths), len(wanted))

    def slowly(self, page, widths):
        self.comes_from(page, widths, slow_numbers(page, widths))
        self.assertEqual(sure_breaks(page, widths), slow_sure(page, widths))


class OriginsTest(OriginsCase):
    def test_example(self):
        self.assertEqual(count_origins(PAGE, [4]), 2)
        self.assertEqual(
            list(origins(PAGE, [4])),
            [[["aaa"], ["b"], ["cc", "d"]], [["aaa", "b"], ["cc", "d"]]],
        )
        self.assertEqual(sure_breaks(PAGE, [4]), [2])
        self.assertEqual(count_origins(PAGE, [3]), 0)

    def test_empty_page(self):
        for widths in ([], [1], [9, 7], [LARGEST]):
            self.comes_from([], widths, [[]])
            self.assertEqual(sure_breaks([], widths), [])

    def test_no_widths(self):
        self.comes_from(PAGE, [], [[1, 1, 1]])
        self.assertEqual(sure_breaks(PAGE, []), [1, 2])
        page = [["a" * 60] * 60] * 40
        self.comes_from(page, [], [[1] * 40])
        self.assertEqual(sure_breaks(page, []), list(range(1, 40)))

    def test_no_origin(self):
        for page, widths in (
            (PAGE, [3]),
            (PAGE, [9, 3, 4]),
            ([["a", "b"]], [2]),
            ([["a", "b"]], [1]),
            ([["a"], ["a", "b", "c"], ["d"]], [LARGEST, 4]),
        ):
            self.comes_from(page, widths, [])
            self.assertIsNone(sure_breaks(page, widths))

    def test_one_line(self):
        for page, widths in (
            ([["a", "b"]], [3]),
            ([["aaaaa"]], [1]),
            ([["aaaaa"]], [9, 4]),
            ([["a"]], [LARGEST]),
        ):
            self.comes_from(page, widths, [[1]])
            self.assertEqual(sure_breaks(page, widths), [])

    def test_words_apart(self):
        page = [["a"], ["b"], ["cccc"], ["d"]]
        for widths in ([1], [2], [9, 7, 2], [1, LARGEST]):
            self.slowly(page, widths)
            self.assertEqual(count_origins(page, widths), 8)
            self.assertEqual(sure_breaks(page, widths), [])

    def test_order_of_the_numbers_of_lines(self):
        wanted = [[1, 1, 1], [1, 2], [2, 1], [3]]
        self.comes_from([["a"], ["b"], ["c"]], [2], wanted)
        wanted = [
            [1, 1, 1, 1], [1, 1, 2], [1, 2, 1], [1, 3],
            [2, 1, 1], [2, 2], [3, 1], [4],
        ]
        self.comes_from([["aa"], ["b", "c"], ["d", "e"], ["f"]], [3], wanted)

    def test_a_line_that_would_have_taken_the_next_word(self):
        page = [["aaa"], ["b"]]
        self.comes_from(page, [4], [[1, 1], [2]])
        self.comes_from(page, [5], [[1, 1]])
        page = [["aaa"], ["b", "b"]]
        self.comes_from(page, [4], [[1, 1], [2]])
        self.comes_from(page, [5], [[1, 1]])

    def test_lines_around_the_least_width(self):
        page = [["aa", "b"], ["cc"]]
        self.comes_from(page, [3], [])
        self.comes_from(page, [4], [[1, 1], [2]])
        self.comes_from(page, [6], [[1, 1], [2]])
        self.comes_from(page, [7], [[1, 1]])

    def test_several_widths_are_not_the_least_one(self):
        # 8 breaks the joined line behind cc, and 5 breaks what is before.
        page = [["aa", "bb"], ["cc"], ["dd"]]
        self.comes_from(page, [8, 5], [[1, 1, 1], [2, 1], [3]])
        self.comes_from(page, [5], [[1, 1, 1], [2, 1]])
        self.assertEqual(sure_breaks(page, [8, 5]), [])
        self.assertEqual(sure_breaks(page, [5]), [2])

    def test_all_small_pages(self):
        lines = [["a"], ["aa"], ["aaaa"], ["a", "a"], ["aa", "a"]]
        lists = all_falling(9)
        for many in (1, 2, 3):
            for page in itertools.product(lines, repeat=many):
                for widths in lists[:: 1 if many < 3 else 7]:
                    self.slowly(list(page), widths)

    def test_repeated_and_rising_widths(self):
        for page in ([["a"], ["a", "a"], ["a"], ["aa"]], PAGE):
            for widths in all_widths(3, 6):
                self.slowly(page, widths)

    def test_folded_pages(self):
        chance = random.Random(7)
        for _ in range(1500):
            longest = chance.choice((1, 2, 4, 9))
            lines = [
                ["a" * chance.randint(1, longest) for _ in range(chance.randint(1, 8))]
                for _ in range(chance.randint(1, 2))
            ]
            highest = chance.choice((5, 9, 20))
            widths = [chance.randint(1, highest) for _ in range(chance.randint(0, 5))]
            widths = sorted(widths, reverse=chance.random() < 0.7)
            folded = slow_fold(lines, widths)
            if len(folded) <= 9:
                self.slowly(folded, widths)
                self.assertIn(lines, origins(folded, widths))

    def test_by_name(self):
        self.assertEqual(count_origins(page=PAGE, widths=[4]), 2)
        self.assertEqual(count_origins(widths=[4], page=PAGE), 2)
        self.assertEqual(len(list(origins(page=PAGE, widths=[4]))), 2)
        self.assertEqual(len(list(origins(widths=[4], page=PAGE))), 2)
        self.assertEqual(sure_breaks(page=PAGE, widths=[4]), [2])
        self.assertEqual(sure_breaks(widths=[4], page=PAGE), [2])

    def test_kinds_of_results(self):
        for page in ([], [["a"]], PAGE):
            for widths in ([], [3], [4], [1]):
                self.assertIs(type(count_origins(page, widths)), int)
                for origin in origins(page, widths):
                    self.assertIs(type(origin), list)
                for index in sure_breaks(page, widths) or []:
                    self.assertIs(type(index), int)


class LargePagesTest(OriginsCase):
    def test_forty_lines(self):
        page = [["a" * 60]] * 40
        for widths in ([1], [60], [121, 60], [LARGEST] * 39 + [2]):
            self.assertEqual(count_origins(page, widths), 2**39)
            self.assertEqual(sure_breaks(page, widths), [])
        self.comes_from(page, [121], [[1] * 40])
        self.assertEqual(sure_breaks(page, [121]), list(range(1, 40)))

    def test_forty_lines_of_sixty_words_of_sixty_letters(self):
        page = [["a" * 60] * 60] * 40
        whole = slow_length(page[0])
        self.assertEqual(count_origins(page, [whole]), 2**39)
        self.assertEqual(count_origins(page, [whole + 60]), 2**39)
        self.assertEqual(count_origins(page, [whole + 61]), 1)
        self.assertEqual(count_origins(page, [whole - 1]), 0)
        widths = list(range(whole + 39, whole - 1, -1))
        self.assertEqual(count_origins(page, widths), 2**39)

    def test_the_first_origins_of_a_large_page(self):
        page = [["a" * 60] * 60] * 39 + [["b"] * 60]
        widths = [slow_length(page[0]) + 2, LARGEST]
        self.assertEqual(count_origins(page, widths), 2**38)
        self.assertEqual(sure_breaks(page, widths), [39])
        self.assertEqual(
            first_of(origins(page, widths), 3),
            [
                page,
                page[:37] + [page[37] + page[38], page[39]],
                page[:36] + [page[36] + page[37]] + page[38:],
            ],
        )

    def test_pages_that_fold_returned(self):
        apart = fold([["a"] * 60] * 40, [1])
        self.assertEqual(len(apart), 2400)
        self.assertEqual(count_origins(apart, [2]), 2**2399)
        self.assertEqual(sure_breaks(apart, [2]), [])
        self.assertEqual(count_origins(apart, [3]), 1)
        self.assertEqual(sure_breaks(apart, [3]), list(range(1, 2400)))
        self.assertEqual(
            first_of(origins(apart, [1]), 2),
            [apart, apart[:-2] + [["a", "a"]]],
        )

    def test_steps_of_one_two_or_three_lines(self):
        # Two words have 121 letters and gaps, each further word has 61 more.
        pairs = fold([["a" * 60] * 60] * 40, [121])
        self.assertEqual(len(pairs), 1200)
        counts = {1: 1, 2: [1, 1], 3: [1, 1, 2]}
        for steps in (2, 3):
            row = counts[steps]
            while len(row) <= 1200:
                row.append(sum(row[-steps:]))
        for words, wanted in (
            (2, 2**1199), (3, 1), (4, 2**1199),
            (5, counts[2][1200]), (7, counts[3][1200]),
        ):
            widths = [61 * words - 1, 121]
            self.assertEqual(count_origins(pairs, widths), wanted)
            between = [182] * (words > 2)
            widths = [61 * words - 1] + between + [121]
            self.assertEqual(
                count_origins(pairs[:12], widths),
                slow_count(pairs[:12], widths),
            )

    def test_many_lines_and_four_hundred_widths(self):
        page = [["a" * 60] * 60] * 40
        widths = list(range(859, 59, -2))
        self.assertEqual(len(widths), 400)
        apart = fold(page, widths + [60])
        self.assertEqual(len(apart), 2400)
        self.assertEqual(count_origins(apart, widths + [60]), 2**2399)
        self.assertEqual(sure_breaks(apart, widths), [])

    def test_forty_mixed_lines_against_slow_version(self):
        chance = random.Random(11)
        for longest, widths in (
            (3, [9, 4, 3]), (5, [20, 18, 17, 9, 5]), (9, [30, 12]),
            (9, [80, 77, 74, 50, 41, 30, 29, 17, 11]),
            (9, list(range(90, 11, -2))), (9, list(range(49, 9, -1))),
        ):
            line = ["a" * chance.randint(1, longest) for _ in range(120)]
            page = slow_fold([line], widths)[:40]
            many = count_origins(page, widths)
            self.assertEqual(many, slow_count(page, widths))
            self.assertGreater(many, 1)

    def test_a_page_that_was_read_line_by_line(self):
        page = [["a"], ["a", "a"]] * 1000
        self.assertEqual(count_origins(page, [3]), 2**999)
        self.assertEqual(sure_breaks(page, [3]), list(range(1, 2000, 2)))


class WalksTest(OriginsCase):
    def test_stopping_early(self):
        page = [["a" * 60]] * 40
        walk = origins(page, [60])
        self.assertEqual(next(walk), page)
        walk.close()
        self.assertEqual(list(walk), [])
        self.assertEqual(next(origins(page, [60])), page)
        for origin in origins(page, [60]):
            if len(origin) < 35:
                break
        self.assertEqual([len(line) for line in origin], [1] * 33 + [7])
        self.comes_from(PAGE, [4], [[1, 1, 1], [2, 1]])

    def test_walks_beside_each_other(self):
        page = [["a"]] * 5
        wanted = [slow_join(page, each) for each in slow_numbers(page, [2])]
        walks = [origins(page, [2]), origins(page, [2])]
        for origin in wanted:
            self.assertEqual([next(walk) for walk in walks], [origin, origin])
        self.assertEqual([list(walk) for walk in walks], [[], []])
        first = origins(page, [2])
        next(first)
        self.assertEqual(list(origins(page, [2])), wanted)
        self.assertEqual(list(first), wanted[1:])
        other = origins(page, [2])
        next(other)
        first = origins(page, [2])
        next(first)
        other.close()
        self.assertEqual(list(first), wanted[1:])

    def test_walks_inside_of_walks(self):
        page = [["a"]] * 4
        wanted = [slow_join(page, each) for each in slow_numbers(page, [2])]
        pairs = [(a, b) for a in origins(page, [2]) for b in origins(page, [1])]
        self.assertEqual(pairs, [(a, b) for a in wanted for b in wanted])

    def test_walks_over_different_pages(self):
        mixed = zip(origins(PAGE, [4]), origins([["a"], ["b"]], [1]))
        self.assertEqual(
            list(mixed),
            [
                (PAGE, [["a"], ["b"]]),
                ([["aaa", "b"], ["cc", "d"]], [["a", "b"]]),
            ],
        )

    def test_origins_are_new(self):
        for page, widths in (
            ([], []), ([["a"]], [1]), (PAGE, [4]), (PAGE, []),
            ([["a"]] * 4, [1]), ([["a", "b"]] * 3, [3]),
        ):
            page = list(page)
            kept = list(origins(page, widths))
            kept += list(origins(page, widths))
            made = [id(o) for o in kept] + [id(l) for o in kept for l in o]
            self.assertEqual(len(set(made)), len(made))
            seen = [id(page)] + [id(line) for line in page]
            self.assertFalse(set(seen) & set(made))

    def test_changed_origins_have_no_influence(self):
        page = [["a"]] * 5
        wanted = [slow_join(page, each) for each in slow_numbers(page, [2])]
        found = []
        for origin in origins(page, [2]):
            found.append(copy.deepcopy(origin))
            for line in origin:
                line.append("x")
            origin.append(["y"])
        self.assertEqual(found, wanted)
        self.assertEqual(page, [["a"]] * 5)

    def test_sure_breaks_are_new(self):
        found = sure_breaks(PAGE, [4])
        found.append(9)
        self.assertEqual(sure_breaks(PAGE, [4]), [2])

    def test_arguments_stay(self):
        for call in CALLS + (lambda *both: list(origins(*both)),):
            for widths in ([4], [9, 7, 4], [4, 9], []):
                page = copy.deepcopy(PAGE)
                before = list(widths)
                call(page, widths)
                self.assertEqual([page, widths], [PAGE, before])


class OriginsErrorsTest(unittest.TestCase):
    def fails(self, page, widths, error, index):
        before = copy.deepcopy([page, widths])
        for call in CALLS:
            with self.assertRaises(error) as caught:
                call(page, widths)
            self.assertEqual(caught.exception.value, index)
            self.assertEqual([page, widths], before)

    def test_first_bad_line(self):
        for page, index in (
            ([[]], 0),
            ([["a"], [], ["B"]], 1),
            ([["a"], ["b", "c d"], []], 1),
            ([["a"], ["b"], ["c", ""]], 2),
            ([["a"]] * 39 + [["a\n"]], 39),
        ):
            for widths in ([], [4], [1]):
                self.fails(page, widths, InvalidPage, index)

    def test_first_bad_width(self):
        for widths, index in (
            ([0], 0),
            ([-LARGEST, 0], 0),
            ([9, 0, -1], 1),
            ([1, 2, -3], 2),
            ([2] * 39 + [0], 39),
        ):
            # With and without an origin for the widths before.
            for page in ([], PAGE, [["a", "b"]], [["aaa"]]):
                self.fails(page, widths, InvalidWidth, index)

    def test_page_before_widths(self):
        self.fails([["a"], [""]], [0], InvalidPage, 1)
        self.fails([[]], [3, -1], InvalidPage, 0)

    def test_a_page_without_origins_is_no_error(self):
        self.assertEqual(list(origins([["a", "b"]], [1])), [])

    def test_a_walk_ends_with_its_error(self):
        walk = None
        with self.assertRaises(InvalidWidth):
            walk = origins(PAGE, [0])
            next(walk)
        self.assertEqual(len(list(origins(PAGE, [4]))), 2)


if __name__ == "__main__":
    unittest.main()
