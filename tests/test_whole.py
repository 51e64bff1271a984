"""Promises 1, 2 and 6 to 9 over the whole program: its parts together."""

import copy
import random
import unittest

from refold.choices import choice_number, count_choices, fewest, nth_choice
from refold.counting import count_effects, effect_number, effects
from refold.effects import commute, effect, same_effect
from refold.learning import read_effect, test_page as page_that_shows
from refold.live import LivePage
from refold.origins import count_origins, origins, sure_breaks
from refold.pages import fold, length
from refold.parting import parting_line
from refold.readings import read_page, read_widths
from refold.scripts import repeated_effect, run_script, script_effect
from refold.texts import show_page, show_widths
from slow import all_widths, slow_effect, slow_fold

PAGE_TEXT = "aaa b c\ndd e\nff g hhhh i jj\nk l m n o"
PAGE = read_page(PAGE_TEXT)
WIDTHS_TEXTS = [
    "none", "1", "2", "9 > 7", "9 > 8 > 7", "7 > 9", "12 > 10 > 7 > 7 > 5",
    "11 > 9 > 6 > 4 > 3", "20 > 13 > 11 > 6 > 9 > 4", "9 > 2 > 7", "5 > 1",
]


def chosen_widths(seed, many, highest):
    chance = random.Random(seed)
    return [chance.randint(3, highest) for _ in range(many)]


def all_calls(page, widths):
    """What the functions return for a page and widths, in lists."""
    live = LivePage(page)
    live.fold(*widths)
    found = fold(page, widths)
    return [
        found,
        effect(widths),
        fewest(widths),
        parting_line(widths, [4, 3]),
        list(run_script(page, [("fold", width) for width in widths])),
        script_effect([("fold", width) for width in widths])[1],
        repeated_effect([("fold", 9), ("margin", 1)], 3)[1],
        next(origins(found, widths)),
        sure_breaks(found, widths),
        page_that_shows(9),
        live.page,
        live.widths,
        live.effect,
        list(live.lines()),
        read_page(show_page(page)),
        read_widths(show_widths(widths)),
    ]


def spoil(found):
    """Change a list and every list within it."""
    for item in found:
        if isinstance(item, list):
            spoil(item)
    found.append("x")
    found[0] = "y"


class FoldsTest(unittest.TestCase):
    def test_one_width_after_the_other(self):
        for text in WIDTHS_TEXTS:
            widths = read_widths(text)
            present = PAGE
            for width in widths:
                present = fold(present, [width])
            self.assertEqual(fold(PAGE, widths), present)
            self.assertEqual(present, slow_fold(PAGE, widths))

    def test_two_parts_at_any_place(self):
        lists = [read_widths(text) for text in WIDTHS_TEXTS]
        lists += [chosen_widths(seed, 40, 30) for seed in range(5)]
        for widths in lists:
            wanted = fold(PAGE, widths)
            for at in range(len(widths) + 1):
                found = fold(fold(PAGE, widths[:at]), widths[at:])
                self.assertEqual(found, wanted)
                live = LivePage(fold(PAGE, widths[:at]))
                live.fold(*widths[at:])
                self.assertEqual(live.page, wanted)

    def test_all_ways_to_fold_are_alike(self):
        for text in WIDTHS_TEXTS:
            widths = read_widths(text)
            live = LivePage.read(PAGE_TEXT)
            live.fold(*widths)
            script = [("fold", width) for width in widths]
            wanted = fold(PAGE, widths)
            self.assertEqual(live.page, wanted)
            self.assertEqual(run_script(PAGE, script), (wanted, 0))
            self.assertEqual(fold(PAGE, effect(widths)), wanted)
            self.assertEqual(fold(PAGE, fewest(widths)), wanted)
            self.assertEqual(read_page(show_page(wanted)), wanted)

    def test_two_hundred_widths_that_were_read(self):
        for widths in (
            chosen_widths(1, 200, 10**15),
            list(range(500, 100, -2)),
            list(range(301, 101, -1)),
            list(range(5, 205)),
            [10**30 - k * k for k in range(200)],
        ):
            found = read_widths(show_widths(widths))
            self.assertEqual(found, widths)
            self.assertEqual(effect(found), slow_effect(widths))
            page = [["a" * (1 + k % 9) for k in range(60)]] * 5
            self.assertEqual(fold(page, found), slow_fold(page, widths))

    def test_a_thousand_widths_that_were_read(self):
        text = " > ".join(["9", "7", "8", "3"] * 250)
        self.assertLess(len(text), 4001)
        widths = read_widths(text)
        self.assertEqual(len(widths), 1000)
        self.assertEqual(effect(widths), [9, 8, 7, 3])
        self.assertEqual(fold(PAGE, widths), fold(PAGE, [9, 7, 3]))
        self.assertEqual(count_origins([["a"]] * 3, widths), 1)
        self.assertEqual(fewest(widths), [9, 7, 3])


class EffectsTest(unittest.TestCase):
    def test_one_list_after_the_other(self):
        lists = all_widths(2, 5) + [read_widths(text) for text in WIDTHS_TEXTS]
        for first in lists:
            for second in lists:
                both = first + second
                of_effects = effect(first) + effect(second)
                self.assertEqual(effect(of_effects), effect(both))
                self.assertIs(same_effect(of_effects, both), True)
                swapped = effect(effect(second) + effect(first))
                wanted = swapped == effect(both)
                self.assertIs(commute(first, second), wanted)
                self.assertIs(commute(effect(first), effect(second)), wanted)

    def test_every_judge_of_effects_agrees(self):
        lists = [read_widths(text) for text in WIDTHS_TEXTS]
        for first in lists:
            for second in lists:
                same = same_effect(first, second)
                self.assertIs(effect(first) == effect(second), same)
                self.assertIs(parting_line(first, second) is None, same)
                numbers = [effect_number(20, w) for w in (first, second)]
                self.assertIs(numbers[0] == numbers[1], same)
                lives = [LivePage(PAGE), LivePage(PAGE)]
                lives[0].fold(*first)
                lives[1].fold(*second)
                self.assertIs(lives[0] == lives[1], same)
                if same:
                    self.assertEqual(fold(PAGE, first), fold(PAGE, second))
                    self.assertEqual(lives[0].page, lives[1].page)
                    self.assertEqual(count_choices(first), count_choices(second))

    def test_a_parting_line_parts_live_pages(self):
        lists = [read_widths(text) for text in WIDTHS_TEXTS]
        for first in lists:
            for second in lists:
                line = parting_line(first, second)
                if line is not None:
                    lives = [LivePage([line]), LivePage([line])]
                    lives[0].fold(*first)
                    lives[1].fold(*second)
                    self.assertNotEqual(lives[0].page, lives[1].page)

    def test_hidden_widths_of_a_live_page(self):
        for text in WIDTHS_TEXTS:
            live = LivePage(page_that_shows(20))
            live.fold(*read_widths(text))
            self.assertEqual(read_effect(20, live.page), live.effect)
            shown = read_page(show_page(live.page))
            self.assertEqual(read_effect(20, shown), live.effect)

    def test_effects_and_choices_that_were_shown_and_read(self):
        for number, full in enumerate(effects(9)):
            self.assertEqual(read_widths(show_widths(full)), full)
            self.assertEqual(effect_number(9, full), number)
            many = count_choices(full)
            for at in range(0 if many is None else many):
                choice = read_widths(show_widths(nth_choice(full, at)))
                self.assertEqual(effect(choice), full)
                self.assertEqual(choice_number(choice), at)
        self.assertEqual(number + 1, count_effects(9))

    def test_a_script_of_a_live_page(self):
        script = [("fold", 12), ("margin", 2), ("fold", 12), ("fold", 9)]
        joins, full, margin = script_effect(script)
        live = LivePage(PAGE)
        live.fold(*full)
        self.assertEqual((live.page, margin), run_script(PAGE, script))
        self.assertEqual([joins, live.effect], [False, full])


class OriginsTest(unittest.TestCase):
    def test_a_folded_page_comes_from_the_page(self):
        for text in WIDTHS_TEXTS:
            widths = read_widths(text)
            live = LivePage.read("aaa b c\ndd e\nff g h")
            start = live.page
            live.fold(*widths)
            found = list(origins(live.page, widths))
            self.assertIn(start, found)
            self.assertEqual(len(found), count_origins(live.page, live.effect))
            self.assertEqual(found, list(origins(live.page, live.effect)))
            sure = sure_breaks(live.page, widths)
            self.assertEqual(sure, sure_breaks(live.page, fewest(widths)))
            for origin in found:
                self.assertEqual(fold(origin, widths), live.page)

    def test_origins_that_were_shown_and_read(self):
        page = fold(PAGE, [6, 4])
        for origin in origins(page, [6, 4]):
            self.assertEqual(read_page(show_page(origin)), origin)

    def test_results_of_any_size(self):
        page = [["a" * 60] * 60] * 40
        joined, _ = run_script(page, [("join",)])
        self.assertEqual(length(joined[0]), 2400 * 61 - 1)
        self.assertEqual(read_page(show_page(joined)), joined)
        apart = fold(joined, [1])
        live = LivePage(apart)
        live.fold(60, 10**30)
        self.assertEqual(live.page, apart)
        self.assertEqual(count_origins(apart, live.widths), 2**2399)
        self.assertEqual(read_page(show_page(apart)), apart)
        _, full, _ = repeated_effect([("fold", 300), ("margin", 1)], 240)
        self.assertEqual(full, list(range(300, 60, -1)))
        self.assertEqual(fold(joined, full), fold(joined, fewest(full)))
        self.assertEqual(count_origins(apart, [60] + full), 2**2399)
        self.assertEqual(read_widths(show_widths(full)), full)
        self.assertEqual(choice_number(fewest(full)), 0)


class NewListsTest(unittest.TestCase):
    def test_changed_results_have_no_influence(self):
        for text in WIDTHS_TEXTS:
            widths = read_widths(text)
            page = read_page(PAGE_TEXT)
            wanted = copy.deepcopy(all_calls(page, widths))
            for found in all_calls(page, widths):
                if found is not None:
                    spoil(found)
            self.assertEqual(all_calls(page, widths), wanted)
            self.assertEqual([page, widths], [PAGE, read_widths(text)])

    def test_results_stay_as_they_are(self):
        kept = all_calls(PAGE, [9, 7, 4])
        wanted = copy.deepcopy(kept)
        for text in WIDTHS_TEXTS:
            all_calls(PAGE, read_widths(text))
        self.assertEqual(kept, wanted)


if __name__ == "__main__":
    unittest.main()
