"""Trends: a point's worths tick by tick, and the sums, least and greatest of stretches of ticks."""

from panelwatch.errors import NoList, TooMany, Unlike
from panelwatch.histories import check_history, good_rows, history_of
from panelwatch.letters import check_signs, rows_in
from panelwatch.shapes import is_level
from panelwatch.words import check_time, check_truth, check_whole, is_rising, is_time, is_tuple
from panelwatch.works import check_point, check_works

_MOST_TICKS = 1000
_MOST_SIZE = 400


def fine(history, since, till, *, odd=True):
    """Tell the fine rows of a history and a window, tuples (tick, worth)."""
    check_history(history)
    _check_window(since, till, odd)
    return _fine_rows(history, since, till, odd)


def coarse_of(rows, size):
    """Tell the coarse rows of fine rows, tuples (start, many, sum, least, greatest)."""
    if not _are_fine_rows(rows):
        raise NoList(rows)
    _check_size(size)
    return _coarse_rows(rows, size)


def coarse(history, size, since, till, *, odd=True):
    """Tell the coarse rows of a history, a size and a window."""
    check_history(history)
    _check_size(size)
    _check_window(since, till, odd)
    return _coarse_rows(_fine_rows(history, since, till, odd), size)


def _check_size(size):
    check_whole(size, 1, _MOST_SIZE)


def _check_window(since, till, odd):
    check_time(since)
    check_time(till)
    check_truth(odd)
    many = till - since + 1
    if many > _MOST_TICKS:
        raise TooMany(many)


def _are_fine_rows(thing):
    if not isinstance(thing, (list, tuple)) or not all([_is_fine_row(row) for row in thing]):
        return False
    return is_rising([row[0] for row in thing])


def _is_fine_row(thing):
    return is_tuple(thing, 2) and is_time(thing[0]) and is_level(thing[1])


def _fine_rows(history, since, till, odd):
    signs = history if odd else good_rows(history)
    rows = []
    worth = None
    heard = 0
    for tick in range(since, till + 1):
        while heard < len(signs) and signs[heard][0] <= tick:
            worth = signs[heard][1]
            heard += 1
        if worth is not None:
            rows.append((tick, worth))
    return rows


def _coarse_rows(rows, size):
    stretches = {}
    for tick, worth in rows:
        stretches.setdefault(tick - tick % size, []).append(worth)
    return [
        (start, len(worths), sum(worths), min(worths), max(worths)) for start, worths in stretches.items()
    ]


class Trend:
    """A trend of one point in a window, which hears letters with signs."""

    def __init__(self, works, point, size, since, till, *, odd=True):
        check_works(works)
        check_point(works, point)
        _check_size(size)
        _check_window(since, till, odd)
        self._works = works
        self._point = point
        self._size = size
        self._since = since
        self._till = till
        self._odd = odd
        self._heard = {}

    def __eq__(self, other):
        return (
            isinstance(other, Trend) and self._works == other._works and self._point == other._point
            and self._size == other._size and self._since == other._since and self._till == other._till
            and self._odd == other._odd and self._heard == other._heard
        )

    def hear(self, letter):
        """Hear a letter with signs and tell whether the coarse rows have changed."""
        check_signs(self._works, letter)
        _, place, number, _, _ = letter
        if place != self._works.point(self._point)[1]:
            return False
        if number in self._heard:
            if self._heard[number] != letter:
                raise Unlike(letter)
            return False
        ahead = self.rows()
        self._heard[number] = letter
        return self.rows() != ahead

    def rows(self):
        """Tell the coarse rows of all that was heard."""
        return _coarse_rows(self.fine(), self._size)

    def fine(self):
        """Tell the fine rows of all that was heard."""
        signs = []
        for number in self.heard():
            signs.extend(rows_in(self._heard[number], self._point))
        return _fine_rows(history_of(signs), self._since, self._till, self._odd)

    def heard(self):
        """Tell the numbers of the letters of the point's place that were heard, rising."""
        return sorted(self._heard)

    def copied(self):
        """Tell a trend that heard the same, and goes its own way."""
        twin = Trend(self._works, self._point, self._size, self._since, self._till, odd=self._odd)
        twin._heard = dict(self._heard)
        return twin
