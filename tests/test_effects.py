"""Promises 2, 5, 7, 8 and 9: effects."""

import unittest

from refold.effects import commute, effect, same_effect
from refold.errors import InvalidWidth
from refold.pages import fold
from slow import all_lines, all_widths, slow_effect

LARGEST = 10**30 - 1


class EffectTest(unittest.TestCase):
    def test_example(self):
        self.assertEqual(effect([]), [])
        self.assertEqual(effect([10, 12, 8, 8, 5]), [10, 9, 8, 5])
        self.assertEqual(effect([9, 7]), [9, 8, 7])
        self.assertEqual(effect([7, 2, 5]), [2])
        self.assertEqual(effect([9, 7, 6, 4]), [9, 8, 7, 6, 5, 4])

    def test_repeated_and_rising_widths(self):
        self.assertEqual(effect([8, 8, 8]), [8])
        self.assertEqual(effect([5, 6, 7]), [5])
        self.assertEqual(effect([9, 9, 6, 9, 6, 3, 20]), [9, 6, 3])

    def test_widths_two_apart(self):
        self.assertEqual(effect([9, 8, 7]), [9, 8, 7])
        self.assertEqual(effect([9, 7, 5]), [9, 8, 7, 6, 5])
        self.assertEqual(effect([9, 6]), [9, 6])
        self.assertEqual(effect([9, 8]), [9, 8])
        self.assertEqual(effect([9, 20, 9, 7, 8]), [9, 8, 7])

    def test_two_apart_but_not_among_the_least(self):
        self.assertEqual(effect([7, 9]), [7])
        self.assertEqual(effect([6, 8, 4]), [6, 5, 4])

    def test_least_width(self):
        self.assertEqual(effect([1]), [2])
        self.assertEqual(effect([2]), [2])
        self.assertEqual(effect([3]), [3])
        self.assertEqual(effect([2, 1]), [2])
        self.assertEqual(effect([9, 7, 1]), [2])
        self.assertEqual(effect([9, 2]), [2])
        self.assertEqual(effect([9, 3]), [9, 3])
        self.assertEqual(effect([5, 3]), [5, 4, 3])
        self.assertEqual(effect([4, 3, 2]), [2])
        self.assertEqual(effect([1, LARGEST]), [2])

    def test_forty_widths(self):
        self.assertEqual(effect(list(range(82, 2, -2))), list(range(82, 3, -1)))
        self.assertEqual(effect(list(range(123, 3, -3))), list(range(123, 3, -3)))
        self.assertEqual(effect(list(range(40, 80))), [40])
        self.assertEqual(effect([7] * 40), [7])

    def test_large_widths(self):
        self.assertEqual(effect([LARGEST]), [LARGEST])
        self.assertEqual(
            effect([LARGEST, LARGEST - 2]), [LARGEST, LARGEST - 1, LARGEST - 2]
        )
        self.assertEqual(effect([LARGEST, 3]), [LARGEST, 3])

    def test_effect_of_an_effect(self):
        for widths in all_widths(4, 6):
            found = effect(widths)
            self.assertEqual(effect(found), found)

    def test_against_slow_version(self):
        for widths in all_widths(5, 7):
            self.assertEqual(effect(widths), slow_effect(widths))

    def test_first_bad_width(self):
        for widths, index in (
            ([0], 0),
            ([-LARGEST], 0),
            ([3, 0, -1], 1),
            ([1, 2, -1], 2),
            ([9, 7, 5, 0], 3),
        ):
            with self.assertRaises(InvalidWidth) as caught:
                effect(widths)
            self.assertEqual(caught.exception.value, index)

    def test_by_name(self):
        self.assertEqual(effect(widths=[9, 7]), [9, 8, 7])

    def test_result_is_new_and_argument_stays(self):
        for widths in ([], [2], [9, 8, 7], [9, 7], [4, 6]):
            before = list(widths)
            found = effect(widths)
            self.assertIsNot(found, widths)
            found.append(1)
            self.assertEqual(widths, before)
            self.assertEqual(effect(widths), found[:-1])


class SameEffectTest(unittest.TestCase):
    def test_example(self):
        self.assertIs(same_effect([9, 8, 7], [9, 7]), True)
        self.assertIs(same_effect([9, 8], [8]), False)

    def test_edges(self):
        self.assertIs(same_effect([], []), True)
        self.assertIs(same_effect([], [LARGEST]), False)
        self.assertIs(same_effect([LARGEST], [LARGEST - 1]), False)
        self.assertIs(same_effect([1], [2]), True)
        self.assertIs(same_effect([9, 7, 1], [2, 8]), True)
        self.assertIs(same_effect([2], [3]), False)
        self.assertIs(same_effect([9, 6], [9, 6, 8, 6]), True)
        self.assertIs(same_effect([9, 6], [9, 5]), False)

    def test_equal_effects_are_equal_folds(self):
        # Promises 7 and 9: the folds of all short lines tell the effect.
        page = all_lines(3, 6)
        lists = all_widths(3, 6)
        effect_of = {}
        folds_of = {}
        for widths in lists:
            folds = str(fold(page, widths))
            found = str(effect(widths))
            self.assertEqual(effect_of.setdefault(folds, found), found)
            self.assertEqual(folds_of.setdefault(found, folds), folds)
        self.assertEqual(len(effect_of), len(folds_of))

    def test_equal_effects_fold_longer_lines_alike(self):
        page = all_lines(5, 4)
        for first, second in (
            ([9, 7], [9, 8, 7]),
            ([13, 11, 9], [13, 12, 11, 10, 9]),
            ([8, 6, 5, 3], [8, 7, 6, 5, 4, 3]),
            ([9, 12, 6, 7], [9, 6]),
            ([7, 2], [1, 8]),
        ):
            self.assertIs(same_effect(first, second), True)
            self.assertEqual(fold(page, first), fold(page, second))

    def test_by_name(self):
        self.assertIs(same_effect(first=[9, 8, 7], second=[9, 7]), True)
        self.assertIs(same_effect(second=[8], first=[9]), False)


class CommuteTest(unittest.TestCase):
    def test_example(self):
        self.assertIs(commute([9, 5], [7, 5]), False)
        self.assertIs(commute([8], [9, 8, 7]), False)

    def test_edges(self):
        self.assertIs(commute([], []), True)
        self.assertIs(commute([], [9, 5]), True)
        self.assertIs(commute([LARGEST], []), True)
        self.assertIs(commute([9, 5], [9, 5]), True)
        self.assertIs(commute([9], [8]), False)
        self.assertIs(commute([LARGEST], [LARGEST - 1]), False)
        self.assertIs(commute([9, 8, 7], [9, 7]), True)
        self.assertIs(commute([2], [1]), True)
        self.assertIs(commute([1], [9, 5]), True)
        self.assertIs(commute([3], [9, 5]), False)

    def test_commuting_is_folding_alike_in_both_orders(self):
        page = all_lines(3, 5)
        lists = all_widths(2, 5)
        for first in lists:
            for second in lists:
                one = fold(page, first + second)
                other = fold(page, second + first)
                self.assertIs(commute(first, second), one == other)

    def test_by_name(self):
        self.assertIs(commute(first=[9], second=[]), True)
        self.assertIs(commute(second=[9], first=[8]), False)


class TwoListsTest(unittest.TestCase):
    """What holds for same_effect and commute alike."""

    def test_errors_of_the_first_list_then_of_the_second(self):
        for call in (same_effect, commute):
            for first, second, index in (
                ([0], [], 0),
                ([], [0], 0),
                ([5, 4, -1], [0], 2),
                ([5, 4, 3], [6, 0, -1], 1),
                ([5, 0], [6, 5, 0], 1),
                ([1], [2, 2, 0], 2),
            ):
                with self.assertRaises(InvalidWidth) as caught:
                    call(first, second)
                self.assertEqual(caught.exception.value, index)

    def test_arguments_stay(self):
        for call in (same_effect, commute):
            first, second = [9, 7], [7, 9, 2]
            call(first, second)
            self.assertEqual([first, second], [[9, 7], [7, 9, 2]])
            call(first, first)
            self.assertEqual(first, [9, 7])

    def test_forty_widths(self):
        first = list(range(82, 2, -2))
        second = list(range(82, 3, -1))
        self.assertIs(same_effect(first, second), True)
        self.assertIs(commute(first, second), True)
        self.assertIs(same_effect(first, second[1:]), False)
        self.assertIs(commute(first, second[1:]), False)


if __name__ == "__main__":
    unittest.main()
