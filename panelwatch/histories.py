"""Histories: what is told of one point, a tuple (time, worth, mark) for each time at which it has signs, rising."""

from panelwatch.errors import NoHistory
from panelwatch.shapes import is_level
from panelwatch.words import is_mark, is_rising, is_time, is_tuple


def is_row(thing):
    """Tell whether a thing is a tuple (time, worth, mark) of some point."""
    if not is_tuple(thing, 3):
        return False
    time, worth, mark = thing
    return is_time(time) and is_level(worth) and is_mark(mark)


def is_history(thing):
    """Tell whether a thing is a list of such tuples, their times rising, none twice."""
    if not isinstance(thing, (list, tuple)) or not all([is_row(row) for row in thing]):
        return False
    return is_rising([row[0] for row in thing])


def check_history(thing):
    """Refuse what is no history."""
    if not is_history(thing):
        raise NoHistory(thing)


def history_of(rows):
    """Tell the history that some rows make, the later of two that have one time standing behind the other one."""
    latest = {row[0]: row for row in rows}
    return [latest[time] for time in sorted(latest)]


def row_at(history, at):
    """Tell the last row of a history that is no later than a moment, or None."""
    for row in reversed(history):
        if row[0] <= at:
            return row
    return None


def good_rows(history):
    """Tell the rows of a history that are marked good."""
    return [row for row in history if row[2] == "good"]
