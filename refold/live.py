"""A page that is folded and unfolded."""

from refold.effects import effect, same_effect
from refold.errors import NothingToUndo
from refold.pages import check_page, check_widths, fold_page
from refold.readings import read_page


class LivePage:
    """A page that is folded, and that remembers how."""

    def __init__(self, page):
        check_page(page)
        # The page at the start and behind each width, so that undo need not
        # fold anew. They share lines, so none of them is ever given away.
        self._pages = [copied(page)]
        self._widths = []

    def __eq__(self, other):
        if not isinstance(other, LivePage):
            return False
        if self._pages[0] != other._pages[0]:
            return False
        return same_effect(self._widths, other._widths)

    @property
    def page(self):
        """The page as it is folded now."""
        return copied(self._pages[-1])

    @property
    def widths(self):
        """The widths so far."""
        return list(self._widths)

    @property
    def effect(self):
        """The effect of the widths so far."""
        return effect(self._widths)

    def fold(self, *widths):
        """Fold the page at widths, one after the other."""
        check_widths(widths)
        for width in widths:
            self._pages.append(fold_or_keep(self._pages[-1], width))
            self._widths.append(width)

    def undo(self):
        """Take back the last width."""
        if not self._widths:
            raise NothingToUndo(0)
        self._pages.pop()
        self._widths.pop()

    def lines(self):
        """Yield the lines of the page as it is when the first is asked for."""
        present = self.page
        yield from present

    @classmethod
    def read(cls, text):
        """Return an object for the page of a text."""
        return cls(read_page(text))


def copied(page):
    """Return a page with lists of its own."""
    return [list(line) for line in page]


def fold_or_keep(page, width):
    """Return a page folded at a width; the very page if that breaks no line.

    Many widths break no line, and the pages behind them need no room then.
    """
    folded = fold_page(page, width)
    if len(folded) == len(page):
        return page
    return folded
