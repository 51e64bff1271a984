"""Promises 2, 3, 5 and 8: all effects for a limit."""

import unittest

from refold.counting import count_effects, effect_number, effects
from refold.effects import effect
from refold.errors import InvalidNumber, InvalidWidth
from slow import all_widths, slow_effect, slow_effects

LARGEST = 10**30 - 1


def count_rows(size, last="--"):
    """How many rows of so many signs do not lead to +-+ behind two signs."""
    counts = {"--": 0, "-+": 0, "+-": 0, "++": 0}
    counts[last] = 1
    for _ in range(size):
        counts = {
            "--": counts["--"] + counts["+-"],
            "-+": counts["--"],
            "+-": counts["-+"] + counts["++"],
            "++": counts["-+"] + counts["++"],
        }
    return sum(counts.values())


def slow_number(widths):
    """The number of an effect, by the rows of signs that come before its own.

    A sign tells for each width from the first one down to 3 if it is in the
    effect. The effects are in the order of their rows, but for [2].
    """
    full = slow_effect(widths)
    if full in ([], [2]):
        return len(full)
    signs = ["+" if w in full else "-" for w in range(full[0], 2, -1)]
    number = 1
    for at, sign in enumerate(signs):
        if sign == "+":
            last = "".join(["-"] + signs[:at] + ["-"])[-2:]
            number += count_rows(len(signs) - at - 1, last)
    return number


class CountTest(unittest.TestCase):
    def test_example(self):
        self.assertEqual(count_effects(0), 1)
        self.assertEqual(count_effects(4), 5)
        self.assertEqual(count_effects(5), 8)

    def test_small_limits(self):
        # Only [] for 0, also [2] for 1 and 2, also [3] for 3.
        found = [count_effects(limit) for limit in range(4)]
        self.assertEqual(found, [1, 2, 2, 3])

    def test_against_slow_version(self):
        for limit in range(15):
            self.assertEqual(count_effects(limit), len(slow_effects(limit)))

    def test_large_limits(self):
        for limit in (15, 40, 300, 1999, 2000):
            wanted = 1 + count_rows(limit - 2)
            self.assertEqual(count_effects(limit), wanted)

    def test_counts_are_integers(self):
        for limit in (0, 1, 3, 50):
            self.assertIs(type(count_effects(limit)), int)

    def test_by_name(self):
        self.assertEqual(count_effects(limit=5), 8)

    def test_negative_limit(self):
        for limit in (-1, -2, -LARGEST):
            with self.assertRaises(InvalidNumber) as caught:
                count_effects(limit)
            self.assertEqual(caught.exception.value, limit)


class EffectsTest(unittest.TestCase):
    def test_example(self):
        self.assertEqual(list(effects(4)), [[], [2], [3], [4], [4, 3]])

    def test_small_limits(self):
        self.assertEqual(list(effects(0)), [[]])
        self.assertEqual(list(effects(1)), [[], [2]])
        self.assertEqual(list(effects(2)), [[], [2]])
        self.assertEqual(list(effects(3)), [[], [2], [3]])
        self.assertEqual(
            list(effects(5)),
            [[], [2], [3], [4], [4, 3], [5], [5, 4], [5, 4, 3]],
        )

    def test_against_slow_version(self):
        for limit in range(14):
            wanted = [list(found) for found in slow_effects(limit)]
            self.assertEqual(list(effects(limit)), wanted)

    def test_every_list_has_one_of_them(self):
        for limit in range(1, 6):
            found = {tuple(slow_effect(w)) for w in all_widths(4, limit)}
            walked = [tuple(full) for full in effects(limit)]
            self.assertEqual(walked, sorted(walked))
            self.assertLessEqual(found, set(walked))

    def test_the_greatest_limit_in_reasonable_time(self):
        many = 0
        before = None
        for full in effects(20):
            self.assertTrue(before is None or before < full)
            before = full
            many += 1
        self.assertEqual(many, count_effects(20))
        self.assertEqual(before, list(range(20, 2, -1)))

    def test_stopping_early(self):
        found = []
        for full in effects(20):
            found.append(full)
            if full == [5, 4]:
                break
        self.assertEqual(
            found, [[], [2], [3], [4], [4, 3], [5], [5, 4]]
        )
        walk = effects(20)
        self.assertEqual([next(walk), next(walk)], [[], [2]])
        walk.close()
        self.assertEqual(list(walk), [])
        self.assertEqual(len(list(effects(6))), count_effects(6))

    def test_walks_inside_of_walks(self):
        wanted = [list(found) for found in slow_effects(6)]
        pairs = [(one, two) for one in effects(6) for two in effects(6)]
        self.assertEqual(pairs, [(one, two) for one in wanted for two in wanted])
        walks = [effects(6), effects(6)]
        for full in wanted:
            self.assertEqual([next(walk) for walk in walks], [full, full])
        self.assertEqual([list(walk) for walk in walks], [[], []])

    def test_changed_effects_have_no_influence(self):
        wanted = [list(found) for found in slow_effects(7)]
        found = []
        for full in effects(7):
            found.append(list(full))
            full.append(1)
            full[0] = 99
        self.assertEqual(found, wanted)
        kept = list(effects(7))
        self.assertEqual(len({id(full) for full in kept}), len(kept))
        self.assertEqual(list(effects(7)), wanted)

    def test_by_name(self):
        self.assertEqual(list(effects(limit=3)), [[], [2], [3]])

    def test_negative_limit(self):
        for limit in (-1, -2, -LARGEST):
            with self.assertRaises(InvalidNumber) as caught:
                next(effects(limit))
            self.assertEqual(caught.exception.value, limit)


class NumberTest(unittest.TestCase):
    def test_example(self):
        self.assertEqual(effect_number(4, [4, 3]), 4)

    def test_small_limits(self):
        self.assertEqual(effect_number(0, []), 0)
        self.assertEqual(effect_number(1, []), 0)
        self.assertEqual(effect_number(1, [1]), 1)
        self.assertEqual(effect_number(2, [1]), 1)
        self.assertEqual(effect_number(2, [2]), 1)
        self.assertEqual(effect_number(3, [2]), 1)
        self.assertEqual(effect_number(3, [3]), 2)
        self.assertEqual(effect_number(5, [5, 3]), 7)
        self.assertEqual(effect_number(6, [6, 3]), 9)

    def test_numbers_follow_the_walk(self):
        for limit in range(13):
            for number, full in enumerate(effects(limit)):
                # For the limit 1, the width of the effect [2] is too great.
                widths = [1] if full == [2] else full
                self.assertEqual(effect_number(limit, widths), number)

    def test_against_slow_version(self):
        for limit in range(1, 7):
            wanted = [list(found) for found in slow_effects(limit)]
            for widths in all_widths(4, limit):
                number = wanted.index(slow_effect(widths))
                self.assertEqual(effect_number(limit, widths), number)

    def test_a_greater_limit_changes_nothing(self):
        for widths in ([], [1], [2], [3], [9, 7], [4, 9, 3, 9], [20, 17, 16]):
            number = effect_number(20, widths)
            for limit in (21, 22, 50, 300, LARGEST):
                self.assertEqual(effect_number(limit, widths), number)

    def test_lists_with_the_same_effect(self):
        for widths in ([9, 8, 7], [9, 7], [9, 12, 9, 7, 8]):
            number = effect_number(12, widths)
            self.assertEqual(number, effect_number(9, [9, 7]))
        self.assertEqual(effect_number(9, [9, 7, 1]), 1)

    def test_the_greatest_limit_in_reasonable_time(self):
        many = count_effects(300)
        last = effect_number(300, list(range(300, 2, -1)))
        self.assertEqual(last, many - 1)
        self.assertEqual(effect_number(300, [300]), count_effects(299))
        self.assertEqual(effect_number(300, [300, 3]), count_effects(299) + 1)
        for widths in (
            list(range(300, 220, -2)),
            list(range(300, 220, -1)),
            list(range(300, 180, -3)),
            list(range(80, 2, -2)),
            [300, 299, 9, 7, 4, 3],
            [299, 300, 297, 297, 5, 3],
            [3, 300],
        ):
            self.assertEqual(effect_number(300, widths), slow_number(widths))

    def test_numbers_are_integers(self):
        for widths in ([], [2], [3], [9, 7]):
            self.assertIs(type(effect_number(9, widths)), int)

    def test_by_name(self):
        self.assertEqual(effect_number(limit=4, widths=[4, 3]), 4)
        self.assertEqual(effect_number(widths=[3], limit=3), 2)

    def test_widths_stay(self):
        for widths in ([], [9, 7], [1], [5, 6, 5]):
            before = list(widths)
            effect_number(9, widths)
            self.assertEqual(widths, before)


class NumberErrorsTest(unittest.TestCase):
    def bad_width(self, limit, widths, index):
        with self.assertRaises(InvalidWidth) as caught:
            effect_number(limit, widths)
        self.assertEqual(caught.exception.value, index)

    def test_negative_limit_before_the_widths(self):
        for limit in (-1, -LARGEST):
            for widths in ([], [0], [5], [1, -1]):
                with self.assertRaises(InvalidNumber) as caught:
                    effect_number(limit, widths)
                self.assertEqual(caught.exception.value, limit)

    def test_width_less_than_one(self):
        self.bad_width(9, [0], 0)
        self.bad_width(9, [5, 4, -1, 0], 2)
        self.bad_width(0, [-LARGEST], 0)

    def test_width_greater_than_the_limit(self):
        self.bad_width(0, [1], 0)
        self.bad_width(1, [2], 0)
        self.bad_width(9, [9, 10, 11], 1)
        self.bad_width(9, [1, 9, 9, LARGEST], 3)
        self.bad_width(300, [300, 301], 1)

    def test_less_than_one_before_greater_than_the_limit(self):
        self.bad_width(9, [10, 0], 1)
        self.bad_width(9, [5, 10, 4, -1], 3)
        self.bad_width(9, [0, 10], 0)

    def test_the_limit_itself_is_valid(self):
        self.assertEqual(effect_number(9, [9]), count_effects(8))
        self.assertEqual(effect_number(1, [1]), 1)


if __name__ == "__main__":
    unittest.main()
