"""All effects for a limit: how many there are, their order, their numbers.

Besides [] and [2], an effect is a list of widths of at least 3 in which each
width is less than the one before it by 1 or by at least 3. A difference of 2
does not occur, as the width between is in the effect, too.
"""

from refold.effects import effect
from refold.errors import InvalidNumber, InvalidWidth


def count_effects(limit):
    """Return how many effects there are for a limit."""
    check_limit(limit)
    if limit == 0:
        return 1
    return 2 + sum(counts_by_first(limit))


def effects(limit):
    """Yield the effects for a limit, in ascending order."""
    check_limit(limit)
    yield []
    if limit >= 1:
        yield [2]
    for first in range(3, limit + 1):
        begun = [first]
        yield from effects_that_begin(begun)


def effect_number(limit, widths):
    """Return the number of the effect of the widths among those for a limit."""
    check_limit(limit)
    full = effect(widths)
    check_highest(limit, widths)
    if full == []:
        return 0
    if full == [2]:
        return 1
    counts = counts_by_first(full[0])
    number = 2 + sum(counts[:full[0]])
    for place in range(1, len(full)):
        number += 1 + count_lower(counts, full[place - 1], full[place])
    return number


def check_limit(limit):
    """Raise InvalidNumber if a limit is negative."""
    if limit < 0:
        raise InvalidNumber(limit)


def check_highest(limit, widths):
    """Raise InvalidWidth for the first width that is greater than a limit."""
    for index, width in enumerate(widths):
        if width > limit:
            raise InvalidWidth(index)


def may_follow(before, width):
    """Tell whether a lower width may come next in an effect."""
    return before - width != 2


def effects_that_begin(begun):
    """Yield the effects that begin with some widths, in ascending order."""
    yield list(begun)
    for width in range(3, begun[-1]):
        if may_follow(begun[-1], width):
            longer = begun + [width]
            yield from effects_that_begin(longer)


def counts_by_first(limit):
    """Return for each width up to a limit how many effects begin with it.

    The effect [2] is not counted: 2 never follows another width.
    """
    counts = [0, 0, 0]
    far_below = 0
    for first in range(3, limit + 1):
        far_below += counts[first - 3]
        counts.append(1 + counts[first - 1] + far_below)
    return counts


def count_lower(counts, before, width):
    """Return how many ways there are to go on with a lower width instead."""
    return sum([counts[lower] for lower in range(3, width) if may_follow(before, lower)])
