"""Scripts: lists of commands that fold a page, change the margin, join lines."""

from refold.effects import effect
from refold.errors import InvalidCommand, InvalidNumber
from refold.pages import check_page, fold_page


def run_script(page, commands):
    """Return the page and the margin after a script."""
    check_page(page)
    check_script(commands)
    # Copied first, so that no line is shared even if there is no command.
    present = [list(line) for line in page]
    margin = 0
    for command in commands:
        if command[0] == "fold":
            present = fold_page(present, width_within(command[1], margin))
        elif command[0] == "margin":
            margin += command[1]
        else:
            present = join_page(present)
    return (present, margin)


def script_effect(commands):
    """Return whether a script joins, its last effect, and its margin."""
    check_script(commands)
    widths = last_widths(commands, 0)
    return told(has_join(commands), widths, margin_change(commands))


def repeated_effect(commands, times):
    """Return what script_effect returns for a script that is repeated."""
    check_script(commands)
    if times < 0:
        raise InvalidNumber(times)
    if times == 0:
        return (False, [], 0)
    change = margin_change(commands)
    joins = has_join(commands)
    if joins:
        widths = last_widths(commands, change * (times - 1))
    else:
        widths = repeated_widths(commands, times)
    return told(joins, widths, change * times)


def check_script(commands):
    """Raise InvalidCommand for the first command that is wrong."""
    for index, command in enumerate(commands):
        if not is_command(command):
            raise InvalidCommand(index)


def is_command(command):
    """Tell whether a tuple is a command."""
    if len(command) == 1:
        return command[0] == "join"
    if len(command) != 2:
        return False
    name, number = command
    return name == "margin" or (name == "fold" and number >= 1)


def width_within(width, margin):
    """Return the width at which a fold within a margin is done."""
    return max(1, width - margin)


def join_page(page):
    """Return a page with all words in one line; an empty page stays empty."""
    if not page:
        return []
    return [[word for line in page for word in line]]


def has_join(commands):
    """Tell whether a script has a join."""
    return any([command[0] == "join" for command in commands])


def margin_change(commands):
    """Return by how much a script changes the margin."""
    return sum([command[1] for command in commands if command[0] == "margin"])


def last_widths(commands, margin):
    """Return the widths of the folds behind the last join, if there is one.

    The script begins with the given margin.
    """
    widths = []
    present = margin
    for command in commands:
        if command[0] == "fold":
            widths.append(width_within(command[1], present))
        elif command[0] == "margin":
            present += command[1]
        else:
            widths = []
    return widths


def repeated_widths(commands, times):
    """Return widths with the effect of a script without joins, repeated."""
    change = margin_change(commands)
    widths = []
    for turn in range(min(times, turns_that_count(commands))):
        widths.extend(last_widths(commands, change * turn))
    return widths


def turns_that_count(commands):
    """Return how many repetitions decide the effect, without joins."""
    change = margin_change(commands)
    widths = last_widths(commands, 0)
    # If the margin does not grow, no later fold is lower than the same fold
    # in the first repetition.
    if change <= 0 or not widths:
        return 1
    # In the last of these repetitions the lowest fold is at 1.
    return min(widths) // change + 2


def told(joins, widths, margin):
    """Return the tuple for a script."""
    full = effect(widths)
    # Every word stands alone then, whether lines were joined before or not.
    return (joins and full != [2], full, margin)
