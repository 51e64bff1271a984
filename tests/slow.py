"""Slow versions of the document's words, to compare the program with."""

from itertools import combinations, product


def slow_length(line):
    return len(" ".join(line))


def slow_fold_line(line, width):
    lines = []
    for word in line:
        if lines and slow_length(lines[-1] + [word]) <= width:
            lines[-1].append(word)
        else:
            lines.append([word])
    return lines


def slow_fold(page, widths):
    for width in widths:
        page = [new for line in page for new in slow_fold_line(line, width)]
    return page


def slow_effect(widths):
    low = {w for k, w in enumerate(widths) if all(w < v for v in widths[:k])}
    if low & {1, 2}:
        return [2]
    between = {w + 1 for w in low if w + 2 in low}
    return sorted(low | between, reverse=True)


def slow_choices(wanted, limit):
    """All choices for an effect with widths up to a limit, in order."""
    falling = range(limit, 0, -1)
    return sorted(
        list(choice)
        for size in range(limit + 1)
        for choice in combinations(falling, size)
        if slow_effect(list(choice)) == wanted
    )


def all_lines(most_words, longest):
    """All lines of at most so many words up to a length."""
    return [
        ["a" * size for size in sizes]
        for many in range(1, most_words + 1)
        for sizes in product(range(1, longest + 1), repeat=many)
    ]


def all_widths(most, limit):
    """All lists of at most so many widths up to a limit."""
    return [
        list(widths)
        for many in range(most + 1)
        for widths in product(range(1, limit + 1), repeat=many)
    ]


def all_falling(limit):
    """All strictly descending lists of widths up to a limit."""
    falling = range(limit, 0, -1)
    return [
        list(widths)
        for many in range(limit + 1)
        for widths in combinations(falling, many)
    ]


def slow_effects(limit):
    """All effects of lists of widths up to a limit, in order."""
    return sorted({tuple(slow_effect(widths)) for widths in all_falling(limit)})


def slow_run(page, commands):
    margin = 0
    for name, *numbers in commands:
        if name == "margin":
            margin += numbers[0]
        elif name == "fold":
            page = slow_fold(page, [max(1, numbers[0] - margin)])
        elif page:
            page = [sum(page, [])]
    return page, margin


def slow_script_effect(commands):
    names = [command[0] for command in commands]
    start = len(names) - names[::-1].index("join") if "join" in names else 0
    widths = []
    for at in range(start, len(commands)):
        if names[at] == "fold":
            margin = sum(c[1] for c in commands[:at] if c[0] == "margin")
            widths.append(max(1, commands[at][1] - margin))
    found = slow_effect(widths)
    margin = sum(c[1] for c in commands if c[0] == "margin")
    return "join" in names and found != [2], found, margin
