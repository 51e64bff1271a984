"""The effect of a list of widths, and what follows from it."""

from refold.pages import check_widths


def effect(widths):
    """Return the effect of a list of widths, in descending order."""
    check_widths(widths)
    least = lows(widths)
    # Two words and a gap take three letters at least, so that every word
    # stands alone behind a fold at 1 or 2, whatever came before.
    if least and least[-1] <= 2:
        return [2]
    return filled(least)


def same_effect(first, second):
    """Tell whether two lists of widths have the same effect."""
    return effect(first) == effect(second)


def commute(first, second):
    """Tell whether two lists of widths may be swapped."""
    # Each list is checked alone: the index of a wrong width counts from the
    # beginning of its own list.
    check_widths(first)
    check_widths(second)
    return same_effect(first + second, second + first)


def lows(widths):
    """Return the widths that are less than all widths before them."""
    found = []
    for width in widths:
        if not found or width < found[-1]:
            found.append(width)
    return found


def filled(least):
    """Return strictly descending widths with each gap of one width filled."""
    found = []
    for width in least:
        if found and found[-1] - width == 2:
            found.append(width + 1)
        found.append(width)
    return found
