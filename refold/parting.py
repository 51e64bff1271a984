"""Lines that two lists of widths fold differently."""

from refold.effects import effect


def parting_line(first, second):
    """Return a line that two lists of widths fold differently, or None."""
    one = effect(first)
    other = effect(second)
    if one == other:
        return None
    if one[-1:] != other[-1:]:
        return line_between_least_widths(one, other)
    return line_behind_same_widths(one, other)


def line_between_least_widths(one, other):
    """Return a line of two words that only the lower least width breaks."""
    least = min([full[-1] for full in (one, other) if full])
    return ["a" * (least - 1), "a"]


def line_behind_same_widths(one, other):
    """Return a line of three words for effects with the same least width.

    That width is at least 3, so the last two words, of one letter each, stay
    together if the first fold that breaks the line leaves the first word alone.
    """
    place = 0
    while one[place] == other[place]:
        place += 1
    width = max(one[place], other[place])
    # The first two words fit the width, which only one of the effects has.
    # There it keeps them together and breaks off the third one; in the other
    # effect a lower width breaks the line first, and it breaks off the first
    # word. Where both effects have the width plus 1, that one would break the
    # whole line alike, so the line is shorter by one; the other effect does
    # not have the width minus 1 then, or it would have the width itself.
    if place > 0 and one[place - 1] == width + 1:
        return ["a" * (width - 3), "a", "a"]
    return ["a" * (width - 2), "a", "a"]
