"""Roads: letters under way between places and rooms."""

from panelwatch.errors import NoLetter, NoPlace, NotOnRoad
from panelwatch.letters import is_letter
from panelwatch.words import is_room, is_whole
from panelwatch.works import check_works


class Road:
    """A road of some works; the letters that it bears have numbers."""

    def __init__(self, works):
        check_works(works)
        self._works = works
        self._borne = {}
        self._last = 0

    def __eq__(self, other):
        return (
            isinstance(other, Road) and self._works == other._works
            and _count_each(self._borne) == _count_each(other._borne)
        )

    def __len__(self):
        return len(self._borne)

    def put(self, start, goal, letter):
        """Put a letter on the road and tell its number."""
        for end in (start, goal):
            if not self._is_end(end):
                raise NoPlace(end)
        if not is_letter(self._works, letter):
            raise NoLetter(letter)
        return self._bear((start, goal, letter))

    def take(self, number):
        """Take a letter off the road and tell it, a tuple (start, goal, letter)."""
        self._check_there(number)
        return self._borne.pop(number)

    def lose(self, number):
        """Take a letter off the road."""
        self._check_there(number)
        del self._borne[number]

    def double(self, number):
        """Put an equal letter on the road and tell its number."""
        return self._bear(self.letter(number))

    def letter(self, number):
        """Tell a letter that stays on the road, a tuple (start, goal, letter)."""
        self._check_there(number)
        return self._borne[number]

    def numbers(self):
        """Tell the numbers of all letters, rising."""
        return list(self._borne)

    def bound_for(self, goal):
        """Tell the numbers of the letters of a goal, rising."""
        # True and False equal the rooms' numbers, and are no goals.
        if not self._is_end(goal):
            return []
        return [number for number, row in self._borne.items() if row[1] == goal]

    def under_way(self):
        """Tell tuples (number, start, goal, letter) of all letters, rising by their numbers."""
        return [(number, start, goal, letter) for number, (start, goal, letter) in self._borne.items()]

    def copied(self):
        """Tell a road that bears the same, and goes its own way."""
        twin = Road(self._works)
        twin._borne = dict(self._borne)
        twin._last = self._last
        return twin

    def _is_end(self, thing):
        return is_room(thing) or self._works.has_place(thing)

    def _check_there(self, number):
        if not is_whole(number, 1, self._last) or number not in self._borne:
            raise NotOnRoad(number)

    def _bear(self, row):
        # The numbers only grow, so the dict keeps them rising.
        self._last += 1
        self._borne[self._last] = row
        return self._last


def _count_each(borne):
    many = {}
    for row in borne.values():
        many[row] = many.get(row, 0) + 1
    return many
