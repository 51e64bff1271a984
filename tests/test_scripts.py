"""Promises 2 to 6 and 8: scripts."""

import copy
import unittest
from itertools import product

from refold.errors import InvalidCommand, InvalidNumber, InvalidPage
from refold.pages import fold
from refold.scripts import repeated_effect, run_script, script_effect
from slow import all_lines, slow_effect, slow_run, slow_script_effect

PAGE = [["aaa", "bbb"], ["cc"], ["d", "e", "ff"]]
JOINED = [["aaa", "bbb", "cc", "d", "e", "ff"]]
EXAMPLE = [("fold", 9), ("join",), ("margin", 2), ("fold", 8)]
LARGEST = 10**30 - 1
SMALL = [
    ("fold", 1), ("fold", 3), ("fold", 4), ("fold", 5), ("fold", 7),
    ("margin", 1), ("margin", -1), ("margin", 2), ("join",),
]
WRONG = [
    (), ("turn",), ("turn", 3), ("Fold", 3), ("folds", 3), ("", 3), ("",),
    ("fold",), ("margin",), ("fold", 3, 4), ("margin", 3, 4), ("join", 3),
    ("join", 0), ("join", 3, 4), ("turn", 3, 4), ("fold", 3, 4, 5),
    ("fold", 0), ("fold", -1), ("fold", -LARGEST), ("fold", 0, 3),
    ("fold", 3, 0),
]


def all_scripts(most, commands):
    return [
        list(script)
        for many in range(most + 1)
        for script in product(commands, repeat=many)
    ]


class RunTest(unittest.TestCase):
    def runs(self, page, commands, wanted, margin):
        found = run_script(page, commands)
        self.assertIs(type(found), tuple)
        self.assertEqual(found, (wanted, margin))

    def test_example(self):
        found = run_script([["aaa", "bbb"], ["cc"]], EXAMPLE)
        self.assertEqual(found, ([["aaa"], ["bbb", "cc"]], 2))

    def test_no_commands(self):
        self.runs(PAGE, [], PAGE, 0)
        self.runs([], [], [], 0)

    def test_folds(self):
        self.runs(PAGE, [("fold", 7)], PAGE, 0)
        for widths in ([6], [4, 3], [9, 6, 4], [1], [LARGEST]):
            commands = [("fold", width) for width in widths]
            self.runs(PAGE, commands, fold(PAGE, widths), 0)

    def test_margins_of_both_signs(self):
        self.runs(PAGE, [("margin", 3)], PAGE, 3)
        self.runs(PAGE, [("margin", -3)], PAGE, -3)
        self.runs(PAGE, [("margin", 0)], PAGE, 0)
        self.runs(PAGE, [("margin", 2), ("margin", -5)], PAGE, -3)
        for margin, width in ((1, 7), (2, 6), (-1, 4), (-2, 5), (4, 9)):
            commands = [("margin", margin), ("fold", width)]
            folded = fold(PAGE, [width - margin])
            self.runs(PAGE, commands, folded, margin)
        commands = [("fold", 6), ("margin", 3), ("fold", 6), ("margin", -1)]
        self.runs(PAGE, commands, fold(PAGE, [6, 3]), 2)

    def test_folds_at_a_width_less_than_the_margin(self):
        apart = fold(PAGE, [1])
        for margin in (5, 6, 7, 100, 10**30):
            commands = [("margin", margin), ("fold", 6)]
            self.runs(PAGE, commands, apart, margin)
        commands = [("margin", 9), ("fold", 1), ("margin", -9), ("fold", 7)]
        self.runs(PAGE, commands, apart, 0)

    def test_margins_at_the_bounds(self):
        commands = [("margin", -10**30), ("fold", 1), ("margin", 10**30)]
        self.runs(PAGE, commands, PAGE, 0)
        commands = [("margin", 10**30)] * 20
        self.runs(PAGE, commands, PAGE, 20 * 10**30)
        commands = [("margin", 10**30 - 5), ("fold", LARGEST)]
        self.runs(PAGE, commands, fold(PAGE, [4]), 10**30 - 5)

    def test_joins(self):
        self.runs(PAGE, [("join",)], JOINED, 0)
        self.runs(JOINED, [("join",)], JOINED, 0)
        self.runs([["a"]], [("join",)], [["a"]], 0)
        self.runs(PAGE, [("fold", 3), ("join",)], JOINED, 0)
        self.runs(PAGE, [("margin", 4), ("join",)], JOINED, 4)
        commands = [("join",), ("fold", 6)]
        self.runs(PAGE, commands, fold(JOINED, [6]), 0)

    def test_several_joins(self):
        self.runs(PAGE, [("join",)] * 20, JOINED, 0)
        commands = [("fold", 3), ("join",), ("fold", 9), ("join",), ("fold", 4)]
        self.runs(PAGE, commands, fold(JOINED, [4]), 0)

    def test_empty_page(self):
        self.runs([], [("join",)], [], 0)
        self.runs([], EXAMPLE, [], 2)
        self.runs([], [("fold", 1), ("join",), ("join",)], [], 0)

    def test_against_slow_version(self):
        for commands in all_scripts(4, SMALL):
            wanted = slow_run(PAGE, commands)
            self.assertEqual(run_script(PAGE, commands), wanted)

    def test_the_largest_pages_in_reasonable_time(self):
        page = [["ab"[k % 2] * (1 + k % 60) for k in range(60)]] * 40
        commands = [("fold", 300), ("margin", 7), ("join",), ("fold", 200)] * 5
        self.assertEqual(run_script(page, commands), slow_run(page, commands))

    def test_by_name(self):
        wanted = ([["aaa"], ["bbb", "cc"]], 2)
        page = [["aaa", "bbb"], ["cc"]]
        self.assertEqual(run_script(page=page, commands=EXAMPLE), wanted)
        self.assertEqual(run_script(commands=EXAMPLE, page=page), wanted)

    def test_arguments_stay(self):
        for commands in ([], EXAMPLE, [("join",)], [("fold", 1)]):
            page = copy.deepcopy(PAGE)
            before = list(commands)
            run_script(page, commands)
            self.assertEqual([page, commands], [PAGE, before])

    def test_pages_are_new(self):
        for page in ([], [["a"]], copy.deepcopy(PAGE), [["a", "b"]] * 3):
            for commands in ([], [("join",)], [("margin", 1)], [("fold", 9)]):
                found, _ = run_script(page, commands)
                seen = {id(page)} | {id(line) for line in page}
                made = [id(found)] + [id(line) for line in found]
                self.assertEqual(len(set(made)), len(made))
                self.assertFalse(seen & set(made))


class EffectTest(unittest.TestCase):
    def tells(self, commands, joins, full, margin):
        found = script_effect(commands)
        self.assertIs(type(found), tuple)
        self.assertIs(found[0], joins)
        self.assertEqual(found, (joins, full, margin))

    def test_example(self):
        self.tells(EXAMPLE, True, [6], 2)

    def test_no_commands(self):
        self.tells([], False, [], 0)

    def test_folds(self):
        self.tells([("fold", 9), ("fold", 7)], False, [9, 8, 7], 0)
        self.tells([("fold", 7), ("fold", 9)], False, [7], 0)
        self.tells([("fold", LARGEST)], False, [LARGEST], 0)

    def test_margins(self):
        self.tells([("margin", 5)], False, [], 5)
        self.tells([("margin", -5), ("fold", 3)], False, [8], -5)
        self.tells([("fold", 3), ("margin", -5)], False, [3], -5)
        commands = [("fold", 9), ("margin", 2), ("fold", 9), ("margin", -7)]
        self.tells(commands, False, [9, 8, 7], -5)
        self.tells([("margin", -10**30), ("fold", 4)], False, [10**30 + 4], -10**30)

    def test_joins(self):
        self.tells([("join",)], True, [], 0)
        self.tells([("fold", 9), ("join",)], True, [], 0)
        self.tells([("join",), ("fold", 9)], True, [9], 0)
        commands = [("join",), ("fold", 3), ("join",), ("fold", 9), ("fold", 8)]
        self.tells(commands, True, [9, 8], 0)
        commands = [("margin", 2), ("join",), ("fold", 9), ("margin", 1)]
        self.tells(commands, True, [7], 3)

    def test_all_words_apart(self):
        self.tells([("fold", 1)], False, [2], 0)
        self.tells([("join",), ("fold", 2)], False, [2], 0)
        self.tells([("join",), ("fold", 9), ("fold", 1)], False, [2], 0)
        self.tells([("join",), ("margin", 9), ("fold", 9)], False, [2], 9)
        self.tells([("join",), ("margin", 9), ("fold", 3)], False, [2], 9)
        self.tells([("fold", 2), ("join",)], True, [], 0)
        self.tells([("fold", 2), ("join",), ("fold", 3)], True, [3], 0)
        self.tells([("join",), ("margin", 7), ("fold", 10)], True, [3], 7)

    def test_against_slow_version(self):
        for commands in all_scripts(4, SMALL):
            wanted = slow_script_effect(commands)
            self.assertEqual(script_effect(commands), wanted)

    def test_equal_tuples_are_equal_results(self):
        commands = [
            ("fold", 2), ("fold", 3), ("fold", 4), ("fold", 5),
            ("margin", 1), ("margin", -1), ("join",),
        ]
        pages = [[line] for line in all_lines(3, 4)]
        pages += [[line[:1], line[1:]] for line in all_lines(3, 3) if line[1:]]
        pages.append([])
        result_of = {}
        tuple_of = {}
        for script in all_scripts(3, commands):
            told = str(script_effect(script))
            result = str([run_script(page, script) for page in pages])
            self.assertEqual(result_of.setdefault(told, result), result)
            self.assertEqual(tuple_of.setdefault(result, told), told)

    def test_by_name(self):
        self.assertEqual(script_effect(commands=EXAMPLE), (True, [6], 2))

    def test_commands_stay_and_effects_are_new(self):
        for commands in ([], EXAMPLE, [("fold", 2)]):
            before = list(commands)
            found = script_effect(commands)
            wanted = copy.deepcopy(found)
            found[1].append(1)
            self.assertEqual(script_effect(commands), wanted)
            self.assertEqual(commands, before)


class RepeatedTest(unittest.TestCase):
    def repeats(self, commands, times, joins, full, margin):
        found = repeated_effect(commands, times)
        self.assertIs(type(found), tuple)
        self.assertIs(found[0], joins)
        self.assertEqual(found, (joins, full, margin))

    def test_example(self):
        commands = [("fold", 9), ("margin", 1)]
        self.repeats(commands, 3, False, [9, 8, 7], 3)

    def test_zero_times(self):
        for commands in ([], EXAMPLE, [("join",)], [("fold", 9)], [("margin", 5)]):
            self.repeats(commands, 0, False, [], 0)

    def test_once(self):
        for commands in all_scripts(3, SMALL):
            self.assertEqual(
                repeated_effect(commands, 1), script_effect(commands)
            )

    def test_no_commands(self):
        for times in (1, 2, LARGEST):
            self.repeats([], times, False, [], 0)

    def test_against_the_script_written_several_times(self):
        for commands in all_scripts(3, SMALL):
            for times in (2, 3, 4, 7):
                self.assertEqual(
                    repeated_effect(commands, times),
                    slow_script_effect(commands * times),
                )

    def test_many_times_against_the_script_written_out(self):
        scripts = (
            [("fold", 40), ("margin", 1)],
            [("fold", 40), ("margin", 2)],
            [("fold", 40), ("margin", 3)],
            [("margin", 3), ("fold", 40), ("margin", -2), ("fold", 30)],
            [("margin", -30), ("fold", 9), ("margin", 32), ("fold", 45)],
            [("margin", -30), ("fold", 9), ("margin", 28), ("fold", 45)],
            [("margin", 5), ("fold", 9), ("margin", -5), ("fold", 8)],
            [("join",), ("fold", 40), ("margin", 1)],
            [("fold", 40), ("join",), ("margin", -1)],
            [("margin", 1), ("fold", 40), ("join",), ("fold", 30)],
        )
        for commands in scripts:
            for times in range(60):
                self.assertEqual(
                    repeated_effect(commands, times),
                    slow_script_effect(commands * times),
                )

    def test_the_time_at_which_the_folds_reach_their_end(self):
        for change in range(1, 9):
            for width in (1, 2, 3, 4, 20, 21):
                commands = [("fold", width), ("margin", change)]
                for times in range(1, width + 4):
                    widths = [max(1, width - change * k) for k in range(times)]
                    full = slow_effect(widths)
                    self.repeats(commands, times, False, full, change * times)

    def test_growing_margins(self):
        commands = [("fold", 300), ("margin", 1)]
        self.repeats(commands, 298, False, list(range(300, 2, -1)), 298)
        self.repeats(commands, 299, False, [2], 299)
        self.repeats(commands, LARGEST, False, [2], LARGEST)
        commands = [("margin", 299), ("fold", 300)]
        self.repeats(commands, LARGEST, False, [2], 299 * LARGEST)
        commands = [("margin", -300)] * 9 + [("fold", 300)]
        commands += [("margin", 300)] * 9 + [("margin", 1)]
        full = list(range(3000, 1000, -1))
        self.repeats(commands, 2000, False, full, 2000)
        self.repeats(commands, LARGEST, False, [2], LARGEST)

    def test_falling_and_staying_margins(self):
        commands = [("fold", 9), ("margin", -1)]
        self.repeats(commands, LARGEST, False, [9], -LARGEST)
        commands = [("margin", -300), ("fold", 9), ("fold", 7)]
        full = [309, 308, 307]
        self.repeats(commands, LARGEST, False, full, -300 * LARGEST)
        commands = [("margin", 3), ("fold", 9), ("margin", -3), ("fold", 4)]
        self.repeats(commands, LARGEST, False, [6, 5, 4], 0)
        commands = [("margin", 3), ("fold", 4), ("margin", -9)]
        self.repeats(commands, LARGEST, False, [2], -6 * LARGEST)

    def test_margins_alone(self):
        self.repeats([("margin", 300)], LARGEST, False, [], 300 * LARGEST)
        self.repeats([("margin", -3)], LARGEST, False, [], -3 * LARGEST)

    def test_joins(self):
        self.repeats([("join",)], LARGEST, True, [], 0)
        self.repeats([("fold", 9), ("join",)], LARGEST, True, [], 0)
        self.repeats([("join",), ("fold", 9)], LARGEST, True, [9], 0)
        self.repeats(EXAMPLE, 2, True, [4], 4)
        self.repeats(EXAMPLE, 3, False, [2], 6)
        self.repeats(EXAMPLE, LARGEST, False, [2], 2 * LARGEST)
        commands = [("margin", 2), ("fold", 5), ("join",), ("margin", -3)]
        self.repeats(commands, LARGEST, True, [], -LARGEST)
        commands = [("join",), ("fold", 9), ("margin", -1), ("fold", 6)]
        full = [LARGEST + 8, LARGEST + 7, LARGEST + 6]
        self.repeats(commands, LARGEST, True, full, -LARGEST)

    def test_twenty_commands(self):
        commands = [("fold", 300), ("margin", 300), ("fold", 299)] * 3
        commands += [("margin", -300), ("margin", -300), ("fold", 7)] * 3
        commands += [("margin", -1), ("fold", 4)]
        for times in range(4):
            self.assertEqual(
                repeated_effect(commands, times),
                slow_script_effect(commands * times),
            )

    def test_by_name(self):
        commands = [("fold", 9), ("margin", 1)]
        wanted = (False, [9, 8, 7], 3)
        self.assertEqual(repeated_effect(commands=commands, times=3), wanted)
        self.assertEqual(repeated_effect(times=3, commands=commands), wanted)

    def test_commands_stay_and_effects_are_new(self):
        for commands in ([], EXAMPLE, [("fold", 9), ("margin", 1)]):
            for times in (0, 1, 5, LARGEST):
                before = list(commands)
                found = repeated_effect(commands, times)
                wanted = copy.deepcopy(found)
                found[1].append(1)
                self.assertEqual(repeated_effect(commands, times), wanted)
                self.assertEqual(commands, before)


class ScriptErrorsTest(unittest.TestCase):
    def bad_command(self, commands, index):
        for call in (
            script_effect,
            lambda script: run_script(PAGE, script),
            lambda script: run_script([], script),
            lambda script: repeated_effect(script, 3),
            lambda script: repeated_effect(script, 0),
            lambda script: repeated_effect(script, -1),
        ):
            before = list(commands)
            with self.assertRaises(InvalidCommand) as caught:
                call(commands)
            self.assertEqual(caught.exception.value, index)
            self.assertEqual(commands, before)

    def test_each_wrong_command(self):
        for wrong in WRONG:
            self.bad_command([wrong], 0)
            self.bad_command(EXAMPLE + [wrong], 4)
            self.bad_command(EXAMPLE[:2] + [wrong] + EXAMPLE, 2)

    def test_first_wrong_command(self):
        for wrong in WRONG:
            self.bad_command([("fold", 3), wrong, ("fold", 0), ()], 1)
            self.bad_command([("join",), ("margin", 0), ("fold", 0), wrong], 2)
        self.bad_command([("fold", 3)] * 19 + [("fold",)], 19)

    def test_the_margin_makes_no_fold_wrong(self):
        commands = [("margin", 9), ("fold", 1), ("margin", -9), ("fold", 1)]
        self.assertEqual(script_effect(commands), (False, [2], 0))
        # At a width less than 1 a fold is wrong, whatever the margin is.
        self.bad_command([("margin", -9), ("fold", 0)], 1)

    def test_margin_zero_is_no_wrong_command(self):
        self.assertEqual(script_effect([("margin", 0)]), (False, [], 0))

    def test_page_before_script(self):
        for page, index in (([[]], 0), ([["a"], ["B"]], 1)):
            for commands in ([], EXAMPLE, [()], [("fold", 0)]):
                with self.assertRaises(InvalidPage) as caught:
                    run_script(page, commands)
                self.assertEqual(caught.exception.value, index)

    def test_negative_number_of_times(self):
        for times in (-1, -2, -LARGEST):
            for commands in ([], EXAMPLE, [("margin", 3)]):
                with self.assertRaises(InvalidNumber) as caught:
                    repeated_effect(commands, times)
                self.assertEqual(caught.exception.value, times)


if __name__ == "__main__":
    unittest.main()
