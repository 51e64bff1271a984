"""The choices for an effect: strictly descending lists of widths with it.

A choice keeps some widths of the effect and omits the others. It may omit a
width only if it keeps both neighbours, the width plus 1 and the width minus 1.
"""

from refold.effects import effect, lows
from refold.errors import InvalidNumber


def fewest(widths):
    """Return a choice with as few widths as possible."""
    full = effect(widths)
    if is_endless(full):
        return full
    # The first choice omits each width as soon as it may, and no other way
    # of omitting leaves out more of a row of neighbours.
    return nth_choice(full, 0)


def count_choices(widths):
    """Return how many choices there are, None if infinitely many."""
    full = effect(widths)
    if is_endless(full):
        return None
    return counts_from(full)[0]


def nth_choice(widths, number):
    """Return the choice with a number, in ascending order of the choices."""
    full = effect(widths)
    if is_endless(full):
        raise InvalidNumber(number)
    counts = counts_from(full)
    if number < 0 or number >= counts[0]:
        raise InvalidNumber(number)
    return pick(full, counts, number)


def choice_number(widths):
    """Return the number of the choice that the widths are."""
    full = effect(widths)
    if lows(widths) != widths or is_endless(full):
        raise InvalidNumber(None)
    counts = counts_from(full)
    kept = set(widths)
    number = 0
    place = 0
    while place < len(full):
        if may_omit(full, place):
            if full[place] in kept:
                number += counts[place + 2]
            else:
                place += 1
        place += 1
    return number


def is_endless(full):
    """Tell whether an effect has infinitely many choices."""
    return full == [2]


def may_omit(full, place):
    """Tell whether both neighbours of a width are in the effect, too."""
    if place == 0 or place == len(full) - 1:
        return False
    return full[place - 1] - full[place + 1] == 2


def counts_from(full):
    """Return for each place how many ways there are to choose from there on.

    They hold if the width before the place is kept. Behind the last width
    there is one way.
    """
    counts = [1] * (len(full) + 1)
    for place in reversed(range(len(full))):
        counts[place] = counts[place + 1]
        if may_omit(full, place):
            counts[place] += counts[place + 2]
    return counts


def pick(full, counts, number):
    """Return the choice with a valid number."""
    choice = []
    left = number
    place = 0
    while place < len(full):
        if may_omit(full, place):
            # The choices without this width go on with a lower one, so they
            # come before those with it.
            if left < counts[place + 2]:
                place += 1
            else:
                left -= counts[place + 2]
        choice.append(full[place])
        place += 1
    return choice
