"""The texts of pages and of lists of widths."""


def show_page(page):
    """Return the text of a page."""
    return "\n".join([" ".join(line) for line in page])


def show_widths(widths):
    """Return the text of a list of widths."""
    if not widths:
        return "none"
    return " > ".join([str(width) for width in widths])
