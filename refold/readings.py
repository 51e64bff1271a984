"""Pages and lists of widths that are read from their texts."""

from refold.errors import Unreadable
from refold.pages import is_line

MOST_DIGITS = 40


def read_page(text):
    """Return the page of a text."""
    # Split, the empty text would give one line with one empty word.
    if text == "":
        return []
    page = [line.split(" ") for line in text.split("\n")]
    if not all([is_line(line) for line in page]):
        raise Unreadable(text)
    return page


def read_widths(text):
    """Return the list of widths of a text."""
    if text == "none":
        return []
    numbers = text.split(" > ")
    if not all([is_width(number) for number in numbers]):
        raise Unreadable(text)
    return [int(number) for number in numbers]


def is_width(text):
    """Tell whether a text is a width as it is shown."""
    if not (text.isascii() and text.isdigit()):
        return False
    # The number 0 is barred as a leading zero is.
    return text[0] != "0" and len(text) <= MOST_DIGITS
