"""A page that shows the effect of the widths at which it was folded.

Each line has three words, the last two of one letter. The length of the first
two words is the head of the line. Behind folds with an effect, the first word
of a line stands alone exactly if the least width is less than the head. If it
does, and the least width is at least 3, then all three words stand alone
exactly if the effect has the head or the head plus 1: such a width breaks off
the third word, where a lower one would break off the first word only.
"""


def test_page(limit):
    """Return a page that shows the effect of all widths up to the limit."""
    # Up to one more than the limit, so that every fold breaks some line.
    highest = max(3, limit + 1)
    return [["a" * (head - 2), "a", "a"] for head in range(3, highest + 1)]


def read_effect(limit, folded):
    """Return the effect of the widths at which the test page was folded."""
    parts = parts_by_head(folded)
    together = [head for head in parts if parts[head][0] > 1]
    if len(together) == len(parts):
        return []
    if not together:
        return [2]
    least = max(together)
    apart = [head for head in parts if len(parts[head]) == 3]
    found = []
    for width in range(limit, least, -1):
        # A width that the effect lacks has a neighbour that it lacks, too, so
        # that the line of the width or the one below shows that both are
        # missing. The least width is never missing.
        if width in apart and (width - 1 in apart or width - 1 == least):
            found.append(width)
    found.append(least)
    return found


def parts_by_head(folded):
    """Return for each head the numbers of words in the parts of its line."""
    parts = {}
    head = 2
    words = 0
    for line in folded:
        if words == 0:
            head += 1
            parts[head] = []
        parts[head].append(len(line))
        words = (words + len(line)) % 3
    return parts
