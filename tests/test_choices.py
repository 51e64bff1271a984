"""Promises 2, 3, 5 and 8: the choices for an effect."""

import unittest

from refold.choices import choice_number, count_choices, fewest, nth_choice
from refold.effects import effect
from refold.errors import InvalidNumber, InvalidWidth
from slow import all_widths, slow_choices, slow_effect

LARGEST = 10**30 - 1
# Forty widths, whose effect has 79, and widths without any neighbours.
EVEN = list(range(82, 2, -2))
APART = list(range(123, 3, -3))


def fibonacci(number):
    low, high = 0, 1
    for _ in range(number):
        low, high = high, low + high
    return low


class ChoicesTest(unittest.TestCase):
    def test_example(self):
        self.assertEqual(count_choices([9, 7]), 2)
        self.assertEqual(nth_choice([9, 7], 0), [9, 7])
        self.assertEqual(nth_choice([9, 7], 1), [9, 8, 7])
        self.assertEqual(choice_number([9, 7]), 0)
        self.assertEqual(len(fewest([9, 8, 7, 6, 5])), 3)

    def test_no_widths(self):
        self.assertEqual(fewest([]), [])
        self.assertEqual(count_choices([]), 1)
        self.assertEqual(nth_choice([], 0), [])
        self.assertEqual(choice_number([]), 0)

    def test_infinitely_many_choices(self):
        for widths in ([2], [1], [7, 2, 5], [2, 1], [4, 3, 1], [3, 1, LARGEST]):
            self.assertIsNone(count_choices(widths))
            found = fewest(widths)
            self.assertEqual(len(found), 1)
            self.assertEqual(effect(found), [2])

    def test_one_choice(self):
        for widths in ([3], [LARGEST], [4, 3], [9, 6], [9, 8, 5, 4], APART):
            self.assertEqual(count_choices(widths), 1)
            self.assertEqual(fewest(widths), widths)
            self.assertEqual(nth_choice(widths, 0), widths)
            self.assertEqual(choice_number(widths), 0)

    def test_all_choices_of_a_small_effect(self):
        wanted = [
            [9, 7, 5],
            [9, 7, 6, 5],
            [9, 8, 6, 5],
            [9, 8, 7, 5],
            [9, 8, 7, 6, 5],
        ]
        for widths in wanted + [[9, 12, 7, 7, 5]]:
            self.assertEqual(count_choices(widths), 5)
            found = [nth_choice(widths, number) for number in range(5)]
            self.assertEqual(found, wanted)
        self.assertEqual([choice_number(w) for w in wanted], [0, 1, 2, 3, 4])

    def test_two_rows_of_neighbours(self):
        wanted = [
            [12, 10, 6, 4],
            [12, 10, 6, 5, 4],
            [12, 11, 10, 6, 4],
            [12, 11, 10, 6, 5, 4],
        ]
        found = [nth_choice([12, 10, 6, 4], number) for number in range(4)]
        self.assertEqual(found, wanted)
        self.assertEqual(count_choices([12, 10, 6, 4]), 4)
        self.assertEqual([choice_number(w) for w in wanted], [0, 1, 2, 3])

    def test_against_slow_version(self):
        limit = 10
        effects = []
        for widths in all_widths(4, limit):
            found = slow_effect(widths)
            if found not in effects and found != [2]:
                effects.append(found)
        for found in effects:
            wanted = slow_choices(found, limit)
            many = count_choices(found)
            self.assertEqual(many, len(wanted))
            self.assertEqual(
                [nth_choice(found, number) for number in range(many)], wanted
            )
            self.assertEqual(
                [choice_number(choice) for choice in wanted], list(range(many))
            )
            self.assertIn(fewest(found), wanted)
            self.assertEqual(len(fewest(found)), min(map(len, wanted)))

    def test_fewest_of_unsorted_widths(self):
        self.assertEqual(fewest([9, 20, 8, 8, 7, 6]), [9, 7, 6])
        self.assertEqual(fewest([9, 8, 7]), [9, 7])
        self.assertEqual(len(fewest([9, 8, 7, 6])), 3)

    def test_large_widths(self):
        widths = [LARGEST, LARGEST - 2]
        full = [LARGEST, LARGEST - 1, LARGEST - 2]
        self.assertEqual(count_choices(widths), 2)
        self.assertEqual(fewest(full), widths)
        self.assertEqual(nth_choice(widths, 1), full)
        self.assertEqual(choice_number(full), 1)

    def test_forty_widths_and_seventy_nine(self):
        full = effect(EVEN)
        many = fibonacci(79)
        self.assertEqual(len(full), 79)
        for widths in (EVEN, full):
            self.assertEqual(count_choices(widths), many)
            self.assertEqual(fewest(widths), EVEN)
            self.assertEqual(nth_choice(widths, 0), EVEN)
            self.assertEqual(nth_choice(widths, many - 1), full)
            with self.assertRaises(InvalidNumber):
                nth_choice(widths, many)
        self.assertEqual(choice_number(EVEN), 0)
        self.assertEqual(choice_number(full), many - 1)
        before = []
        for number in range(1, many, many // 50):
            choice = nth_choice(EVEN, number)
            self.assertLess(before, choice)
            self.assertEqual(effect(choice), full)
            self.assertEqual(choice_number(choice), number)
            before = choice

    def test_numbers_are_integers(self):
        for widths in ([], [3], [9, 7], [9, 8, 7]):
            self.assertIs(type(count_choices(widths)), int)
            self.assertIs(type(choice_number(widths)), int)

    def test_by_name(self):
        self.assertEqual(fewest(widths=[9, 8, 7]), [9, 7])
        self.assertEqual(count_choices(widths=[9, 7]), 2)
        self.assertEqual(nth_choice(widths=[9, 7], number=1), [9, 8, 7])
        self.assertEqual(nth_choice(number=0, widths=[9, 7]), [9, 7])
        self.assertEqual(choice_number(widths=[9, 8, 7]), 1)

    def test_results_are_new_and_arguments_stay(self):
        calls = (fewest, lambda widths: nth_choice(widths, 0))
        for widths in ([], [9, 7], [9, 8, 7], [4, 7], [3], EVEN):
            before = list(widths)
            count_choices(widths)
            for call in calls:
                found = call(widths)
                self.assertIsNot(found, widths)
                found.append(1)
                self.assertEqual(widths, before)
                self.assertEqual(call(widths), found[:-1])
        widths = [2]
        found = fewest(widths)
        found.append(1)
        self.assertEqual(widths, [2])
        self.assertEqual(len(fewest(widths)), 1)
        widths = [9, 8, 7]
        choice_number(widths)
        self.assertEqual(widths, [9, 8, 7])


class ChoicesErrorsTest(unittest.TestCase):
    def bad_number(self, widths, number):
        with self.assertRaises(InvalidNumber) as caught:
            nth_choice(widths, number)
        self.assertEqual(caught.exception.value, number)

    def bad_choice(self, widths):
        with self.assertRaises(InvalidNumber) as caught:
            choice_number(widths)
        self.assertIsNone(caught.exception.value)

    def test_first_bad_width(self):
        calls = (
            fewest,
            count_choices,
            choice_number,
            lambda widths: nth_choice(widths, 0),
        )
        for call in calls:
            for widths, index in (
                ([0], 0),
                ([-LARGEST, 0], 0),
                ([9, 0, -1], 1),
                ([9, 7, 2, 0], 3),
            ):
                with self.assertRaises(InvalidWidth) as caught:
                    call(widths)
                self.assertEqual(caught.exception.value, index)

    def test_widths_before_numbers(self):
        for number in (-1, 0, LARGEST):
            with self.assertRaises(InvalidWidth) as caught:
                nth_choice([9, 2, 0], number)
            self.assertEqual(caught.exception.value, 2)
        for widths, index in (([3, 5, 0], 2), ([2, 1, -1], 2), ([0, 5], 0)):
            with self.assertRaises(InvalidWidth) as caught:
                choice_number(widths)
            self.assertEqual(caught.exception.value, index)

    def test_numbers_outside(self):
        for widths, many in (([], 1), ([3], 1), ([9, 7], 2), ([9, 7, 5], 5)):
            for number in (-1, -many, many, many + 1, LARGEST, -LARGEST):
                self.bad_number(widths, number)

    def test_numbers_of_infinitely_many(self):
        for number in (-1, 0, 1, LARGEST):
            self.bad_number([2], number)
            self.bad_number([9, 7, 1], number)

    def test_not_strictly_descending(self):
        for widths in ([7, 9], [7, 7], [9, 7, 7], [9, 7, 8], [9, 7, 5, 5]):
            self.bad_choice(widths)

    def test_effect_with_infinitely_many(self):
        for widths in ([2], [1], [2, 1], [9, 7, 2], [9, 7, 1], [2, 9]):
            self.bad_choice(widths)


if __name__ == "__main__":
    unittest.main()
