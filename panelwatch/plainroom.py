"""The plain room, which hears all letters at once."""

from panelwatch.errors import NoList, NotThere, Unlike
from panelwatch.hearing import Hearing, is_hand
from panelwatch.works import check_works


class PlainRoom:
    """A room that has all letters of the places of some works."""

    def __init__(self, works, letters, *, hands=()):
        check_works(works)
        if not isinstance(letters, (list, tuple)):
            raise NoList(letters)
        self._hearing = Hearing(works)
        for letter in letters:
            if not self._hearing.hear(letter):
                raise Unlike(letter)
        if not _are_hands(works, hands):
            raise NoList(hands)
        for point, worth, since, end in hands:
            self._hearing.hand(point, worth, since, end)
        self._check_none_lacks()

    def works(self):
        """Tell the works."""
        return self._hearing.works()

    def known(self, place):
        """Tell a place's known time, or None."""
        return self._hearing.known(place)

    def history(self, point):
        """Tell a point's history."""
        return self._hearing.history(point)

    def show(self, point, at):
        """Tell what is shown of a point at a moment, a tuple (worth, time, mark, state)."""
        return self._hearing.show(point, at)

    def picture(self, at):
        """Tell a dict from all points to the worths that are shown of them at a moment."""
        return self._hearing.picture(at)

    def _check_none_lacks(self):
        for place in self._hearing.works().places():
            lacking = self._hearing.lacking(place)
            if lacking:
                raise NotThere((place, lacking[0]))


def _are_hands(works, thing):
    return isinstance(thing, (list, tuple)) and all([is_hand(works, hand) for hand in thing])
