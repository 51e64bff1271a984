"""Promises 2, 3, 5, 7, 8 and 9: lines that are folded differently."""

import unittest

from refold.effects import effect, same_effect
from refold.errors import InvalidWidth
from refold.pages import check_page, fold
from refold.parting import parting_line
from slow import all_falling, all_widths, slow_effect, slow_fold

# Forty widths up to 200, two apart, three apart, and one apart.
EVEN = list(range(200, 120, -2))
APART = list(range(200, 80, -3))
NEXT = list(range(200, 160, -1))


class PartingTest(unittest.TestCase):
    def parts(self, first, second):
        """Check the line for two lists in both orders."""
        for one, other in ((first, second), (second, first)):
            line = parting_line(one, other)
            self.assertIs(type(line), list)
            self.assertIn(len(line), (1, 2, 3))
            check_page([line])
            self.assertNotEqual(fold([line], one), fold([line], other))
            self.assertNotEqual(
                slow_fold([line], one), slow_fold([line], other)
            )

    def parts_not(self, first, second):
        self.assertIsNone(parting_line(first, second))
        self.assertIsNone(parting_line(second, first))

    def test_example(self):
        line = parting_line([9, 8], [8])
        self.assertIs(fold([line], [9, 8]) == fold([line], [8]), False)

    def test_equal_effects(self):
        self.parts_not([], [])
        self.parts_not([9, 8, 7], [9, 7])
        self.parts_not([9, 12, 9, 7, 8], [9, 7])
        self.parts_not([1], [2])
        self.parts_not([9, 7, 1], [2, 200])
        self.parts_not([200], [200, 200])
        self.parts_not(EVEN, list(range(200, 121, -1)))

    def test_no_width_and_the_least_ones(self):
        for widths in ([1], [2], [3], [4], [200], [9, 7], [5, 2], EVEN):
            self.parts([], widths)
        for widths in ([3], [4], [200], [9, 7], [4, 3], EVEN):
            self.parts([2], widths)
            self.parts([1], widths)
            self.parts([8, 6, 1], widths)

    def test_one_width_and_another_one(self):
        for first in range(1, 201):
            for second in (1, 2, 3, 4, first - 2, first - 1, first + 1, 200):
                second = max(1, second)
                if same_effect([first], [second]):
                    self.parts_not([first], [second])
                else:
                    self.parts([first], [second])

    def test_lists_that_differ_in_one_width(self):
        for widths in (EVEN, APART, NEXT, [200, 100, 3], [8, 7, 4, 3]):
            for at in range(len(widths)):
                shorter = widths[:at] + widths[at + 1:]
                if same_effect(widths, shorter):
                    self.parts_not(widths, shorter)
                else:
                    self.parts(widths, shorter)

    def test_a_width_and_its_neighbours_two_apart(self):
        for width in range(5, 200):
            above, below = width + 1, width - 1
            self.parts_not([above, width, below], [above, below])
            self.parts([above, width], [above, below])
            self.parts([above, width], [width])
            self.parts([width, below], [below])
            self.parts([above, below], [below])
            self.parts([above, below, 3], [above, 3])
            self.parts([above, below, 3], [below, 3])
            self.parts([above, width, 3], [above, 3])
            self.parts([above, width, 3], [width, 3])

    def test_same_least_width(self):
        for least in (1, 2, 3, 4, 5, 198):
            lists = [[least], [least + 1, least], [least + 2, least]]
            lists += [[least + 9, least], [200, least + 1, least]]
            for first in lists:
                for second in lists:
                    if slow_effect(first) == slow_effect(second):
                        self.parts_not(first, second)
                    else:
                        self.parts(first, second)

    def test_all_small_lists(self):
        lists = all_falling(8)
        effects = [slow_effect(widths) for widths in lists]
        for first, one in zip(lists, effects):
            for second, other in zip(lists, effects):
                line = parting_line(first, second)
                self.assertIs(line is None, one == other)
                if line is not None:
                    self.assertLessEqual(len(line), 3)
                    self.assertNotEqual(
                        fold([line], first), fold([line], second)
                    )

    def test_repeated_and_rising_widths(self):
        lists = all_widths(3, 5)
        for first in lists:
            for second in ([5, 3], [4, 5, 3], [5, 5], [3, 4], [5, 4, 3], [1, 3]):
                line = parting_line(first, second)
                self.assertIs(line is None, effect(first) == effect(second))
                if line is not None:
                    self.assertNotEqual(
                        fold([line], first), fold([line], second)
                    )

    def test_forty_widths(self):
        lists = [EVEN, APART, NEXT, list(range(81, 1, -2)), [200] * 40]
        lists += [list(range(82, 2, -2)), list(range(161, 201))]
        for at, first in enumerate(lists):
            self.parts_not(first, list(first))
            for second in lists[at + 1:]:
                self.parts(first, second)

    def test_by_name(self):
        self.assertIsNone(parting_line(first=[9, 7], second=[9, 8, 7]))
        line = parting_line(second=[9], first=[])
        self.assertNotEqual(fold([line], [9]), [line])


class PartingErrorsTest(unittest.TestCase):
    def test_first_list_before_the_second_one(self):
        for first, second, index in (
            ([0], [], 0),
            ([], [0], 0),
            ([5, 4, -1], [0], 2),
            ([5, 4, 3], [6, 0, -1], 1),
            ([5, 0], [6, 5, 0], 1),
            ([1], [2, 2, 0], 2),
            ([0, 0], [0, 0], 0),
        ):
            with self.assertRaises(InvalidWidth) as caught:
                parting_line(first, second)
            self.assertEqual(caught.exception.value, index)


class PartingListsTest(unittest.TestCase):
    def test_arguments_stay(self):
        for first, second in (([9, 7], [7, 9]), ([2], [2]), ([], [5])):
            before = [list(first), list(second)]
            parting_line(first, second)
            self.assertEqual([first, second], before)

    def test_a_changed_result_has_no_influence(self):
        for first, second in (([9], []), ([9, 8], [8]), ([9, 7], [8, 7])):
            line = parting_line(first, second)
            wanted = list(line)
            line.append("x")
            line[0] = "Y"
            again = parting_line(first, second)
            self.assertIsNot(again, line)
            self.assertEqual(again, wanted)


if __name__ == "__main__":
    unittest.main()
