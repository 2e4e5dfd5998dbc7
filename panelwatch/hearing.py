"""What is heard: letters with signs in whatever order, worths put in by hand, and what both show."""

from panelwatch.errors import NoTime, NotThere, NoWorth, Unlike
from panelwatch.histories import history_of, row_at
from panelwatch.letters import check_signs, rows_in
from panelwatch.words import check_time, is_time, is_tuple
from panelwatch.works import check_place, check_point, check_works


class Hearing:
    """What is heard of some works."""

    def __init__(self, works):
        check_works(works)
        self._works = works
        self._heard = {}
        self._hands = []

    def __eq__(self, other):
        return (
            isinstance(other, Hearing) and self._works == other._works and self._heard == other._heard
            and self._hands == other._hands
        )

    def __len__(self):
        return len(self._heard)

    def works(self):
        """Tell the works."""
        return self._works

    def hear(self, letter):
        """Hear a letter with signs and tell whether it is new."""
        check_signs(self._works, letter)
        key = (letter[1], letter[2])
        if key in self._heard:
            if self._heard[key] != letter:
                raise Unlike(letter)
            return False
        for other in self._letters_of(letter[1]):
            if not _fit(letter, other):
                raise Unlike(letter)
        self._heard[key] = letter
        return True

    def known(self, place):
        """Tell a place's known time, or None."""
        check_place(self._works, place)
        time = None
        number = 1
        while (place, number) in self._heard:
            time = self._heard[(place, number)][3]
            number += 1
        return time

    def lacking(self, place):
        """Tell the numbers of a place's letters that lack below the greatest that was heard."""
        check_place(self._works, place)
        numbers = [letter[2] for letter in self._letters_of(place)]
        return [number for number in range(1, max(numbers, default=1)) if number not in numbers]

    def history(self, point):
        """Tell a point's history by all letters that were heard."""
        rows = []
        for letter in self._letters_of(self._works.point(point)[1]):
            rows.extend(rows_in(letter, point))
        return history_of(rows)

    def hand(self, point, worth, since, end):
        """Put in a worth of a point by hand, from since on, up to end and without it."""
        if not self._works.is_worth(point, worth):
            raise NoWorth(worth)
        check_time(since)
        check_time(end)
        if end <= since:
            raise NoTime(end)
        self._hands.append((point, worth, since, end))

    def unhand(self, point, at):
        """Take out the hand of a point that counts at a moment, from this moment on."""
        check_point(self._works, point)
        check_time(at)
        index = self._index_of_hand(point, at)
        if index is None:
            raise NotThere(point)
        _, worth, since, _ = self._hands[index]
        if since == at:
            del self._hands[index]
        else:
            self._hands[index] = (point, worth, since, at)

    def hands(self):
        """Tell all hands as they were put in, tuples (point, worth, since, end)."""
        return list(self._hands)

    def show(self, point, at):
        """Tell what is shown of a point at a moment, a tuple (worth, time, mark, state)."""
        check_point(self._works, point)
        check_time(at)
        index = self._index_of_hand(point, at)
        if index is not None:
            _, worth, since, _ = self._hands[index]
            return worth, since, "good", "hand"
        state = self._state(self._works.point(point)[1], at)
        row = row_at(self.history(point), at)
        if row is None:
            return None, None, None, state
        time, worth, mark = row
        return worth, time, mark, state

    def picture(self, at):
        """Tell a dict from all points to the worths that are shown of them at a moment."""
        check_time(at)
        return {name: self.show(name, at)[0] for name, _, _ in self._works.points()}

    def letters(self):
        """Tell all letters that were heard, by place and number."""
        return [self._heard[key] for key in sorted(self._heard)]

    def marks(self):
        """Tell a tuple that is equal for just two that are equal, of equal works."""
        return tuple(self.letters()), tuple(self._hands)

    def copied(self):
        """Tell a hearing that heard the same, and goes its own way."""
        twin = Hearing(self._works)
        twin._heard = {key: self._heard[key] for key in self._heard}
        twin._hands = list(self._hands)
        return twin

    def _letters_of(self, place):
        return [self._heard[key] for key in sorted(self._heard) if key[0] == place]

    def _index_of_hand(self, point, at):
        # Of several hands that which was put in last counts.
        for index in reversed(range(len(self._hands))):
            name, _, since, end = self._hands[index]
            if name == point and since <= at < end:
                return index
        return None

    def _state(self, place, at):
        known = self.known(place)
        return "sure" if known is not None and at < known else "open"


def _fit(one, other):
    ahead, behind = (one, other) if one[2] < other[2] else (other, one)
    return min([row[0] for row in behind[4]] + [behind[3]]) >= ahead[3]


def is_hand(works, thing):
    """Tell whether a thing is a tuple (point, worth, since, end) that can be put in by hand."""
    if not is_tuple(thing, 4):
        return False
    point, worth, since, end = thing
    if not (works.has_point(point) and works.is_worth(point, worth)):
        return False
    return is_time(since) and is_time(end) and since < end
