"""Slow versions of the document's words, to compare the program with."""

import re
from itertools import combinations, product

PAGE_TEXT = re.compile(r"([a-z]+( [a-z]+)*(\n[a-z]+( [a-z]+)*)*)?")
WIDTHS_TEXT = re.compile(r"none|[1-9][0-9]{0,39}( > [1-9][0-9]{0,39})*")


def slow_length(line):
    return len(" ".join(line))


def slow_fold_line(line, width):
    lines = []
    for word in line:
        if lines and slow_length(lines[-1] + [word]) <= width:
            lines[-1].append(word)
        else:
            lines.append([word])
    return lines


def slow_fold(page, widths):
    for width in widths:
        page = [new for line in page for new in slow_fold_line(line, width)]
    return page


def slow_effect(widths):
    low = {w for k, w in enumerate(widths) if all(w < v for v in widths[:k])}
    if low & {1, 2}:
        return [2]
    between = {w + 1 for w in low if w + 2 in low}
    return sorted(low | between, reverse=True)


def slow_choices(wanted, limit):
    """All choices for an effect with widths up to a limit, in order."""
    falling = range(limit, 0, -1)
    return sorted(
        list(choice)
        for size in range(limit + 1)
        for choice in combinations(falling, size)
        if slow_effect(list(choice)) == wanted
    )


def all_lines(most_words, longest):
    """All lines of at most so many words up to a length."""
    return [
        ["a" * size for size in sizes]
        for many in range(1, most_words + 1)
        for sizes in product(range(1, longest + 1), repeat=many)
    ]


def all_widths(most, limit):
    """All lists of at most so many widths up to a limit."""
    return [
        list(widths)
        for many in range(most + 1)
        for widths in product(range(1, limit + 1), repeat=many)
    ]


def all_falling(limit):
    """All strictly descending lists of widths up to a limit."""
    falling = range(limit, 0, -1)
    return [
        list(widths)
        for many in range(limit + 1)
        for widths in combinations(falling, many)
    ]


def slow_effects(limit):
    """All effects of lists of widths up to a limit, in order."""
    return sorted({tuple(slow_effect(widths)) for widths in all_falling(limit)})


def slow_run(page, commands):
    margin = 0
    for name, *numbers in commands:
        if name == "margin":
            margin += numbers[0]
        elif name == "fold":
            page = slow_fold(page, [max(1, numbers[0] - margin)])
        elif page:
            page = [sum(page, [])]
    return page, margin


def slow_script_effect(commands):
    names = [command[0] for command in commands]
    start = len(names) - names[::-1].index("join") if "join" in names else 0
    widths = []
    for at in range(start, len(commands)):
        if names[at] == "fold":
            margin = sum(c[1] for c in commands[:at] if c[0] == "margin")
            widths.append(max(1, commands[at][1] - margin))
    found = slow_effect(widths)
    margin = sum(c[1] for c in commands if c[0] == "margin")
    return "join" in names and found != [2], found, margin


def numbers_of_lines(many):
    """All lists of numbers from 1 on with a sum, in ascending order."""
    if many == 0:
        return [[]]
    return [
        [first] + rest
        for first in range(1, many + 1)
        for rest in numbers_of_lines(many - first)
    ]


def slow_join(page, numbers):
    """The page whose lines consist of so many lines of a page each."""
    ends = [sum(numbers[: k + 1]) for k in range(len(numbers))]
    return [sum(page[end - n : end], []) for n, end in zip(numbers, ends)]


def slow_numbers(page, widths):
    """The numbers of lines of all origins, in order."""
    return [
        numbers
        for numbers in numbers_of_lines(len(page))
        if slow_fold(slow_join(page, numbers), widths) == page
    ]


def slow_count(page, widths):
    """How many origins there are, also where they are too many to walk."""
    many = len(page)
    ways = [0] * many + [1]
    for start in reversed(range(many)):
        for end in range(start + 1, many + 1):
            joined = [sum(page[start:end], [])]
            if slow_fold(joined, widths) == page[start:end]:
                ways[start] += ways[end]
    return ways[0]


def slow_sure(page, widths):
    starts = [
        {sum(numbers[:k]) for k in range(len(numbers))}
        for numbers in slow_numbers(page, widths)
    ]
    if not starts:
        return None
    return [k for k in range(1, len(page)) if all(k in s for s in starts)]


def page_of_text(text):
    """The page of a text, or None."""
    if PAGE_TEXT.fullmatch(text) is None:
        return None
    return [re.findall("[a-z]+", line) for line in text.split("\n") if line]


def widths_of_text(text):
    """The list of widths of a text, or None."""
    if WIDTHS_TEXT.fullmatch(text) is None:
        return None
    return [int(number) for number in re.findall("[0-9]+", text)]
