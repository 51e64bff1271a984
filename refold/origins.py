"""The origins of a page: the pages that widths fold to it.

A fold never joins lines, so that each line of an origin consists of the words
of some neighbouring lines of the page: it has a start, the index of the first
of these lines, and an end, the index behind the last one. The ends that a
start may have do not depend on the other lines of the origin. They are kept
as the bits of one integer for each start, as a page may have thousands of
lines.
"""

from refold.choices import fewest
from refold.pages import check_page, check_widths, length


def count_origins(page, widths):
    """Return the number of origins of a page for a list of widths."""
    check_page(page)
    check_widths(widths)
    if not has_origin(page, widths):
        return 0
    ends = ends_by_start(page, widths)
    ways = [0] * len(page) + [1]
    for start in reversed(range(len(page))):
        ways[start] = sum([ways[end] for end in bits_of(ends[start])])
    return ways[0]


def origins(page, widths):
    """Yield all origins, in ascending order of their numbers of lines."""
    check_page(page)
    check_widths(widths)
    if not has_origin(page, widths):
        return
    ends = ends_by_start(page, widths)
    # The page itself comes first: each of its lines is a line of its own.
    chosen = list(range(1, len(page) + 1))
    while chosen is not None:
        yield joined_at(page, chosen)
        chosen = next_choice(ends, chosen)


def sure_breaks(page, widths):
    """Return the indexes at which a line begins in every origin, or None."""
    check_page(page)
    check_widths(widths)
    if not has_origin(page, widths):
        return None
    found = []
    farthest = 0
    for index, ends in enumerate(ends_by_start(page, widths)):
        # Every line that starts before ends here at the latest.
        if index > 0 and farthest <= index:
            found.append(index)
        farthest = max(farthest, ends.bit_length() - 1)
    return found


def has_origin(page, widths):
    """Tell whether a page has an origin for a list of widths.

    If it has one, then it is one itself: a line that comes from a fold fits
    the least width or is one word, so that no width breaks it.
    """
    if not widths:
        return True
    least = min(widths)
    return all([len(line) == 1 or length(line) <= least for line in page])


def ends_by_start(page, widths):
    """Return for each start the ends that a line of an origin may have."""
    ends = [2 << start for start in range(len(page))]
    places = line_places(page)
    firsts = [len(line[0]) for line in page]
    # The last fold comes first, as a fold passes its lines on to the next one.
    for width in reversed(fewest(widths)):
        ends = ends_before(ends, places, firsts, width)
    return ends


def line_places(page):
    """Return where each line and the end of the page would be in one line."""
    places = [0]
    for line in page:
        places.append(places[-1] + length(line) + 1)
    return places


def ends_before(ends, places, firsts, width):
    """Return the ends if there is a fold at a width before all others.

    A line that fits the width is passed on as it is. A longer one is broken
    behind its last word that fits: there a line of the page must begin. The
    part before must end there by the later folds, and the rest is like a line
    of its own.
    """
    last = len(ends)
    found = list(ends)
    fitting = last
    for start in reversed(range(last)):
        while fitting > start + 1 and places[fitting] - places[start] - 1 > width:
            fitting -= 1
        # If all the rest of the page fits, the fold changes nothing.
        if fitting < last:
            found[start] = ends[start] & ((2 << fitting) - 1)
            is_break = places[fitting] - places[start] + firsts[fitting] > width
            if is_break and (ends[start] >> fitting) & 1:
                found[start] = found[start] | found[fitting]
    return found


def bits_of(number):
    """Return the places of the bits of a number, in ascending order."""
    digits = f"{number:b}"
    return [place for place, digit in enumerate(digits[::-1]) if digit == "1"]


def next_choice(ends, chosen):
    """Return the chosen ends that come next in order, or None."""
    kept = list(chosen)
    while kept:
        end = kept.pop()
        start = kept[-1] if kept else 0
        higher = ends[start] >> (end + 1)
        if higher:
            longer = end + (higher & -higher).bit_length()
            return kept + list(range(longer, len(ends) + 1))
    return None


def joined_at(page, chosen):
    """Return the page whose lines end where the chosen ends tell."""
    joined = []
    start = 0
    for end in chosen:
        joined.append([word for line in page[start:end] for word in line])
        start = end
    return joined
