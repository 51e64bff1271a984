"""Pages, their checks, and the fold of a page at widths."""

from refold.errors import InvalidPage, InvalidWidth


def length(line):
    """Return the length of a line: its words and the gaps between them."""
    return sum([len(word) for word in line]) + max(0, len(line) - 1)


def fold(page, widths):
    """Return the page after folds at the widths, one after the other."""
    check_page(page)
    check_widths(widths)
    # Copied first, so that no line is shared even if there is no width.
    folded = [list(line) for line in page]
    for width in widths:
        folded = fold_page(folded, width)
    return folded


def check_page(page):
    """Raise InvalidPage for the first line that is not a list of words."""
    for index, line in enumerate(page):
        if not is_line(line):
            raise InvalidPage(index)


def check_widths(widths):
    """Raise InvalidWidth for the first number that is less than 1."""
    for index, width in enumerate(widths):
        if width < 1:
            raise InvalidWidth(index)


def is_line(strings):
    """Tell whether a list of strings is one or more words."""
    return len(strings) > 0 and all([is_word(string) for string in strings])


def is_word(string):
    """Tell whether a string is one or more of the letters a to z."""
    return string.isascii() and string.isalpha() and string.islower()


def fold_page(page, width):
    """Return a page whose lines are all folded at one width.

    Lines that fit are the very lines of the page that was passed.
    """
    folded = []
    for line in page:
        if length(line) <= width:
            folded.append(line)
        else:
            folded.extend(fold_line(line, width))
    return folded


def fold_line(line, width):
    """Return the lines into which one line is folded at one width."""
    present = [line[0]]
    folded = [present]
    # Kept up to date word by word: measuring the line anew for each word
    # would take quadratic time on a long line.
    used = len(line[0])
    for word in line[1:]:
        longer = used + 1 + len(word)
        if longer <= width:
            present.append(word)
            used = longer
        else:
            present = [word]
            folded.append(present)
            used = len(word)
    return folded
