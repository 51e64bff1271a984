"""Promises 2 to 9: pages that are folded and unfolded."""

import copy
import itertools
import random
import unittest
from types import SimpleNamespace
from unittest import mock

from refold.errors import InvalidPage, InvalidWidth, NothingToUndo, Unreadable
from refold.live import LivePage
from refold.pages import fold
from slow import all_widths, page_of_text, slow_effect, slow_fold

START = [["aaa", "b", "c"], ["dd", "e"]]
LARGEST = 10**30 - 1


def folded(page, *widths):
    live = LivePage(page)
    live.fold(*widths)
    return live


class LiveCase(unittest.TestCase):
    def is_at(self, live, start, widths):
        """Check all that an object tells, by the slow versions."""
        wanted = slow_fold([list(line) for line in start], widths)
        self.assertEqual(live.page, wanted)
        self.assertEqual(list(live.lines()), wanted)
        self.assertEqual(live.widths, widths)
        self.assertEqual(live.effect, slow_effect(widths))


class LiveTest(LiveCase):
    def test_example(self):
        live = LivePage.read("aaa b c")
        live.fold(6, 4)
        live.undo()
        self.assertEqual(live.page, [["aaa", "b"], ["c"]])
        self.assertEqual(live.widths, [6])
        self.assertEqual(live.effect, [6])
        self.assertEqual(list(live.lines()), [["aaa", "b"], ["c"]])

    def test_at_the_start(self):
        for start in ([], [["a"]], START, [["a" * 60] * 60] * 40):
            self.is_at(LivePage(start), start, [])

    def test_by_name(self):
        self.is_at(LivePage(page=START), START, [])
        self.is_at(LivePage.read(text="aaa b c\ndd e"), START, [])

    def test_folds_one_after_the_other(self):
        live = LivePage(START)
        for many, width in enumerate([7, 9, 6, 6, 4, 5, 1, LARGEST], 1):
            self.assertIsNone(live.fold(width))
            widths = [7, 9, 6, 6, 4, 5, 1, LARGEST][:many]
            self.is_at(live, START, widths)

    def test_several_widths_in_one_call(self):
        for widths in all_widths(3, 7):
            live = LivePage(START)
            self.assertIsNone(live.fold(*widths))
            self.is_at(live, START, widths)

    def test_no_width(self):
        live = LivePage(START)
        self.assertIsNone(live.fold())
        self.is_at(live, START, [])
        live.fold(6)
        live.fold()
        self.is_at(live, START, [6])

    def test_undo_takes_back_the_last_width(self):
        live = LivePage(START)
        live.fold(6, 4)
        live.fold(1)
        live.fold()
        for widths in ([6, 4], [6], []):
            self.assertIsNone(live.undo())
            self.is_at(live, START, widths)
        live.fold(5)
        self.is_at(live, START, [5])

    def test_undo_of_widths_that_broke_nothing(self):
        live = folded(START, 9, 9, 6, 9, 6, 4, 8)
        for many in range(6, -1, -1):
            live.undo()
            self.is_at(live, START, [9, 9, 6, 9, 6, 4, 8][:many])

    def test_empty_page(self):
        live = folded([], 5, 3)
        self.is_at(live, [], [5, 3])
        live.undo()
        self.is_at(live, [], [5])

    def test_all_small_walks(self):
        for calls in itertools.product((1, 4, 5, 6, None), repeat=5):
            live = LivePage(START)
            widths = []
            for call in calls:
                if call is not None:
                    live.fold(call)
                    widths.append(call)
                elif widths:
                    live.undo()
                    widths.pop()
            self.is_at(live, START, widths)

    def test_several_objects(self):
        starts = [START, [], [["a"] * 9], START]
        lives = [LivePage(start) for start in starts]
        lists = [[], [], [], []]
        chance = random.Random(5)
        for _ in range(300):
            at = chance.randrange(4)
            if lists[at] and chance.random() < 0.4:
                lives[at].undo()
                lists[at].pop()
            else:
                widths = [chance.randint(1, 9) for _ in range(chance.randint(0, 3))]
                lives[at].fold(*widths)
                lists[at].extend(widths)
            for live, start, widths in zip(lives, starts, lists):
                self.is_at(live, start, widths)

    def test_the_page_as_fold_returns_it(self):
        for widths in all_widths(3, 6):
            self.assertEqual(folded(START, *widths).page, fold(START, widths))


class LargeTest(LiveCase):
    def test_a_hundred_calls_and_four_hundred_widths(self):
        chance = random.Random(6)
        start = [
            ["a" * chance.randint(1, 60) for _ in range(60)] for _ in range(40)
        ]
        for widths in (
            list(range(470, 70, -1)),
            [chance.randint(1, 3700) for _ in range(400)],
            [LARGEST - k for k in range(400)],
        ):
            live = LivePage(start)
            wanted = start
            for at in range(0, 400, 5):
                live.fold(*widths[at:at + 5])
                wanted = fold(wanted, widths[at:at + 5])
                self.assertEqual(live.page, wanted)
                self.assertEqual(live.widths, widths[:at + 5])
            self.assertEqual(live.effect, slow_effect(widths))
            for many in range(399, 379, -1):
                live.undo()
                self.assertEqual(live.widths, widths[:many])
                if many % 10 == 0:
                    self.assertEqual(live.page, fold(start, widths[:many]))

    def test_words_of_sixty_letters(self):
        start = [["a" * 60] * 60] * 40
        live = folded(start, LARGEST, 3658, 121)
        self.assertEqual(live.page, fold(start, [3658, 121]))
        live.undo()
        self.assertEqual(live.page, [["a" * 60] * 59, ["a" * 60]] * 40)
        live.undo()
        self.assertEqual(live.page, start)

    def test_a_long_text(self):
        text = "a b\n" * 999 + "c d"
        live = LivePage.read(text)
        self.is_at(live, page_of_text(text), [])
        live.fold(3, 2)
        self.assertEqual(len(live.page), 2000)


class LiveErrorsTest(LiveCase):
    def test_first_bad_line(self):
        for page, index in (
            ([[]], 0),
            ([["a"], [], ["B"]], 1),
            ([["a"], ["b", ""]], 1),
            ([["a"], ["b"], ["c", "D"]], 2),
        ):
            before = copy.deepcopy(page)
            with self.assertRaises(InvalidPage) as caught:
                LivePage(page)
            self.assertEqual(caught.exception.value, index)
            self.assertEqual(page, before)

    def test_first_bad_width(self):
        for before in ([], [6], [6, 4]):
            for widths, index in (
                ([0], 0),
                ([-LARGEST], 0),
                ([5, 0, -1], 1),
                ([1, 2, -1], 2),
                ([5] * 39 + [0], 39),
            ):
                live = folded(START, *before)
                twin = folded(START, *before)
                with self.assertRaises(InvalidWidth) as caught:
                    live.fold(*widths)
                self.assertEqual(caught.exception.value, index)
                self.is_at(live, START, before)
                self.assertEqual(live, twin)
                live.fold(3)
                self.is_at(live, START, before + [3])
                live.undo()
                self.is_at(live, START, before)

    def test_nothing_to_undo(self):
        for start in ([], START):
            live = LivePage(start)
            for _ in range(2):
                with self.assertRaises(NothingToUndo) as caught:
                    live.undo()
                self.assertEqual(caught.exception.value, 0)
                self.is_at(live, start, [])
            live.fold(5)
            live.undo()
            with self.assertRaises(NothingToUndo) as caught:
                live.undo()
            self.assertEqual(caught.exception.value, 0)
            live.fold()
            with self.assertRaises(NothingToUndo):
                live.undo()
            live.fold(4)
            self.is_at(live, start, [4])

    def test_unreadable(self):
        for text in (" ", "a ", "A", "a  b", "a\n", "10 > 8", "\n", "a\r\nb"):
            with self.assertRaises(Unreadable) as caught:
                LivePage.read(text)
            self.assertEqual(caught.exception.value, text)

    def test_nothing_can_be_assigned(self):
        live = folded(START, 6)
        for name in ("page", "widths", "effect"):
            with self.assertRaises(AttributeError):
                setattr(live, name, [])
        self.is_at(live, START, [6])


class ReadTest(LiveCase):
    def test_texts(self):
        for text in ("", "a", "a b", "a\nb", "aaa b\nc", "none"):
            live = LivePage.read(text)
            self.assertIs(type(live), LivePage)
            self.is_at(live, page_of_text(text), [])
            self.assertEqual(live, LivePage(page_of_text(text)))

    def test_each_object_is_new(self):
        one = LivePage.read("a b")
        other = LivePage.read("a b")
        self.assertIsNot(one, other)
        one.fold(1)
        self.is_at(other, [["a", "b"]], [])

    def test_read_off_an_object(self):
        live = folded(START, 6)
        self.is_at(live.read("a b"), [["a", "b"]], [])
        self.is_at(live, START, [6])


class EqualTest(unittest.TestCase):
    def equal(self, one, other, wanted):
        for first, second in ((one, other), (other, one)):
            self.assertIs(first == second, wanted)
            self.assertIs(first != second, not wanted)

    def test_starts_and_effects(self):
        lists = all_widths(2, 6) + [[5, 4, 3], [9, 7], [9, 8, 7], [9, 8]]
        lives = [folded(START, *widths) for widths in lists]
        for widths, live in zip(lists, lives):
            for others, other in zip(lists, lives):
                same = slow_effect(widths) == slow_effect(others)
                self.assertIs(live == other, same)
                self.assertIs(live != other, not same)

    def test_equal_pages_and_different_effects(self):
        one = folded([["a"]], 5)
        other = folded([["a"]], 4)
        self.assertEqual(one.page, other.page)
        self.equal(one, other, False)
        self.equal(folded([], 5), folded([], 4), False)
        self.equal(folded([], 5), LivePage([]), False)
        self.equal(LivePage(START), folded(START, LARGEST), False)

    def test_equal_pages_and_different_starts(self):
        one = folded([["a", "b"]], 1)
        other = folded([["a"], ["b"]], 1)
        self.assertEqual(one.page, other.page)
        self.equal(one, other, False)
        self.equal(LivePage(START), LivePage(START[::-1]), False)
        self.equal(LivePage([]), LivePage([["a"]]), False)

    def test_equal_effects_of_other_widths(self):
        self.equal(folded(START, 9, 7), folded(START, 9, 8, 7, 20), True)
        self.equal(folded(START, 1), folded(START, 9, 2), True)
        self.equal(folded([], 9, 7), folded([], 9, 8, 7), True)

    def test_objects_become_equal_and_different(self):
        one, other = LivePage(START), LivePage(START)
        self.equal(one, other, True)
        self.equal(one, one, True)
        one.fold(9, 7)
        self.equal(one, other, False)
        other.fold(9, 8)
        self.equal(one, other, False)
        other.fold(7)
        self.equal(one, other, True)
        one.undo()
        self.equal(one, other, False)
        other.undo()
        other.undo()
        self.equal(one, other, True)

    def test_nothing_else_is_equal(self):
        live = folded(START, 6)
        for other in (
            None, 0, True, "", "aaa b c", START, live.page, (), {}, object(),
            LivePage, [live], (live,), "LivePage",
        ):
            self.equal(live, other, False)
        names = ("page", "widths", "effect", "_pages", "_widths")
        alike = SimpleNamespace(**{name: getattr(live, name, 0) for name in names})
        self.equal(live, alike, False)

    def test_what_is_equal_to_everything_is_not_asked(self):
        live = LivePage(START)
        self.assertIs(live == mock.ANY, False)
        self.assertIs(live != mock.ANY, True)

    def test_comparing_changes_nothing(self):
        one, other = folded(START, 9, 7), folded(START, 9, 8, 7)
        self.assertTrue(one == other)
        self.assertEqual([one.widths, other.widths], [[9, 7], [9, 8, 7]])


class CopiesTest(LiveCase):
    def test_the_page_that_was_passed(self):
        start = copy.deepcopy(START)
        live = LivePage(start)
        live.fold(6)
        self.assertEqual(start, START)
        start[0].append("x")
        start[1][0] = "y"
        start.append(["z"])
        self.is_at(live, START, [6])
        live.undo()
        self.is_at(live, START, [])
        self.assertEqual(live, LivePage(START))

    def test_a_line_that_stands_twice_in_the_page(self):
        line = ["a", "b"]
        live = LivePage([line, line])
        line.append("c")
        found = live.page
        found[0].append("x")
        self.assertEqual(found, [["a", "b", "x"], ["a", "b"]])
        self.is_at(live, [["a", "b"]] * 2, [])

    def test_widths_that_were_passed(self):
        widths = [6, 4]
        live = LivePage(START)
        live.fold(*widths)
        widths.append(1)
        widths[0] = 2
        self.is_at(live, START, [6, 4])

    def test_what_was_returned(self):
        for widths in ([], [6], [6, 4], [6, 4, 9], [1], [LARGEST]):
            live = folded(START, *widths)
            for _ in range(2):
                for found in (live.page, list(live.lines())):
                    for line in found:
                        line.append("x")
                        line[0] = "y"
                    found.append(["z"])
                    del found[0]
                live.widths.append(1)
                live.effect.append(1)
                self.is_at(live, START, widths)
            live.fold(5)
            self.is_at(live, START, widths + [5])
            live.undo()
            for many in range(len(widths) - 1, -1, -1):
                live.undo()
                self.is_at(live, START, widths[:many])

    def test_every_list_is_new(self):
        live = LivePage(START)
        kept = []
        for width in (9, 7, 6, 6, 4, 8):
            live.fold(width)
            kept += [live.page, live.page, list(live.lines())]
        made = [id(page) for page in kept]
        made += [id(line) for page in kept for line in page]
        self.assertEqual(len(set(made)), len(made))
        lists = [live.widths, live.widths, live.effect, live.effect]
        self.assertEqual(len({id(each) for each in lists}), 4)

    def test_pages_stay_as_they_were_returned(self):
        live = LivePage(START)
        before = [live.page, live.widths, live.effect]
        live.fold(6, 4)
        self.assertEqual(before, [START, [], []])
        before = [live.page, live.widths, live.effect]
        wanted = copy.deepcopy(before)
        live.undo()
        live.fold(1)
        self.assertEqual(before, wanted)


class LinesTest(LiveCase):
    def test_the_page_when_the_first_line_is_asked_for(self):
        live = LivePage(START)
        walk = live.lines()
        live.fold(6)
        self.assertEqual(list(walk), fold(START, [6]))
        walk = live.lines()
        live.undo()
        self.assertEqual(list(walk), START)

    def test_folds_and_undos_between_lines(self):
        wanted = fold(START, [6])
        changes = (
            lambda live: live.fold(1),
            lambda live: live.undo(),
            lambda live: live.fold(),
        )
        for change in changes:
            for many in range(1, len(wanted) + 1):
                live = folded(START, 6)
                walk = live.lines()
                found = [next(walk) for _ in range(many)]
                change(live)
                self.assertEqual(found + list(walk), wanted)

    def test_changes_before_each_line(self):
        live = folded(START, 6)
        walk = live.lines()
        found = [next(walk)]
        for _ in range(2):
            live.undo()
            live.fold(1, 2)
            found.append(next(walk))
        self.assertEqual(found, fold(START, [6]))
        self.assertEqual(list(walk), [])

    def test_an_error_between_lines(self):
        live = folded(START, 6)
        walk = live.lines()
        found = [next(walk)]
        with self.assertRaises(InvalidWidth):
            live.fold(1, 0)
        self.assertEqual(found + list(walk), fold(START, [6]))

    def test_walks_beside_each_other(self):
        live = folded(START, 6)
        wanted = fold(START, [6])
        walks = [live.lines(), live.lines()]
        for line in wanted:
            found = [next(walk) for walk in walks]
            self.assertEqual(found, [line, line])
            self.assertIsNot(found[0], found[1])
        self.assertEqual([list(walk) for walk in walks], [[], []])
        one = live.lines()
        next(one)
        live.fold(1)
        other = live.lines()
        self.assertEqual(list(other), fold(START, [1]))
        self.assertEqual(list(one), wanted[1:])

    def test_stopping_early(self):
        live = folded(START, 6)
        walk = live.lines()
        next(walk)
        walk.close()
        self.assertEqual(list(walk), [])
        for _ in live.lines():
            break
        self.is_at(live, START, [6])

    def test_changed_lines_have_no_influence(self):
        live = folded(START, 6)
        walk = live.lines()
        other = live.lines()
        found = []
        for line in walk:
            found.append(list(line))
            line.append("x")
        self.assertEqual(found, fold(START, [6]))
        self.assertEqual(list(other), fold(START, [6]))
        self.is_at(live, START, [6])

    def test_no_lines(self):
        self.assertEqual(list(LivePage([]).lines()), [])
        self.assertEqual(list(folded([], 3).lines()), [])


if __name__ == "__main__":
    unittest.main()
