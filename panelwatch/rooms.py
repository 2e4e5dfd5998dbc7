"""Rooms: what they hear, show and command, and the logs that make them again."""

from panelwatch.alarms import raised_by
from panelwatch.errors import (
    Absent, Barred, Locked, NoLetter, NoLog, NoRow, NotNow, NotThere, NoTime, NoWorth, PanelError, TooMany,
)
from panelwatch.hearing import Hearing
from panelwatch.letters import is_letter, is_order
from panelwatch.lists import alarm_list
from panelwatch.orders import Orders
from panelwatch.words import check_id, check_room, check_time, check_whole, next_term
from panelwatch.works import check_point, check_rule, check_works, lock_holds

_MOST_WAIT = 999
_MOST_SHELVES = 20
_THINGS_IN_ROW = {
    "heard": 2, "over": 1, "chosen": 2, "did": 3, "again": 2, "back": 2, "hand": 5, "unhand": 2, "shelved": 4,
    "unshelved": 2,
}


class Room:
    """A room of some works, each of whose deeds has a time and a row in its log."""

    def __init__(self, works, number):
        check_works(works)
        check_room(number)
        self._works = works
        self._number = number
        self._term = 0 if number == 0 else None
        self._knows = self._term
        self._hearing = Hearing(works)
        self._orders = Orders()
        self._shelves = []
        self._last = 0
        self._log = []

    def __eq__(self, other):
        return isinstance(other, Room) and self._works == other._works and self.marks() == other.marks()

    def hears(self, letter, time):
        """Hear a letter from a place and tell whether anything changed."""
        if not is_letter(self._works, letter) or is_order(self._works, letter):
            raise NoLetter(letter)
        check_time(time)
        self._check_now(time)
        changed = self._take_in(letter)
        if changed:
            self._write(time, ("heard", letter, time))
        return changed

    def take_over(self, time):
        """Take the room's next term, and tell tuples (place, letter) for all places."""
        check_time(time)
        self._check_now(time)
        self._term = next_term(self._number, self._knows)
        self._knows = self._term
        self._write(time, ("over", time))
        return [(place, ("term", self._term)) for place in self._works.places()]

    def choose(self, command, time):
        """Choose a command, the first step, and tell its id."""
        _, _, _, locks = self._works.command(command)
        check_time(time)
        self._check_now(time)
        self._check_term()
        self._check_locks(locks, time)
        ident = self._orders.give(self._term, command)
        self._write(time, ("chosen", command, time))
        return ident

    def do(self, ident, time, *, wait=10):
        """Want done what was chosen, the second step, and tell a tuple (place, letter)."""
        check_id(ident)
        check_time(time)
        check_whole(wait, 1, _MOST_WAIT)
        self._check_now(time)
        self._check_term()
        command = self._orders.ask(ident, time, wait)
        self._write(time, ("did", ident, time, wait))
        return self._place_of(command), ("do", ident, command)

    def again(self, ident, time):
        """Tell once more the tuple (place, letter) that wants done what is under way."""
        check_id(ident)
        check_time(time)
        self._check_now(time)
        command = self._orders.ask_again(ident, time)
        self._write(time, ("again", ident, time))
        return self._place_of(command), ("do", ident, command)

    def back(self, ident, time):
        """Drop what is chosen, and tell None; want back what is under way, and tell a tuple (place, letter)."""
        check_id(ident)
        check_time(time)
        self._check_now(time)
        command = self._orders.take_back(ident, time)
        self._write(time, ("back", ident, time))
        return None if command is None else (self._place_of(command), ("back", ident))

    def hand(self, point, worth, since, end, time):
        """Put in a worth of a point by hand, from since on, up to end and without it."""
        if not self._works.is_worth(point, worth):
            raise NoWorth(worth)
        self._check_span(since, end, time)
        self._hearing.hand(point, worth, since, end)
        self._write(time, ("hand", point, worth, since, end, time))

    def unhand(self, point, time):
        """Take out the hand of a point that counts now."""
        check_point(self._works, point)
        check_time(time)
        self._check_now(time)
        self._hearing.unhand(point, time)
        self._write(time, ("unhand", point, time))

    def shelve(self, rule, since, end, time):
        """Shelve a rule from since on, up to end and without it."""
        check_rule(self._works, rule)
        self._check_span(since, end, time)
        if len(self._shelves) == _MOST_SHELVES:
            raise TooMany(_MOST_SHELVES + 1)
        self._shelves.append((rule, since, end))
        self._write(time, ("shelved", rule, since, end, time))

    def unshelve(self, rule, time):
        """Let the shelves of a rule that count now end."""
        check_rule(self._works, rule)
        check_time(time)
        self._check_now(time)
        shelves = []
        for name, since, end in self._shelves:
            counts = name == rule and since <= time < end
            if not counts or since < time:
                shelves.append((name, since, time if counts else end))
        if shelves == self._shelves:
            raise NotThere(rule)
        self._shelves = shelves
        self._write(time, ("unshelved", rule, time))

    def works(self):
        """Tell the works."""
        return self._works

    def number(self):
        """Tell the room's number."""
        return self._number

    def term(self):
        """Tell the room's term, or None."""
        return self._term

    def knows(self):
        """Tell the greatest term that the room knows, or None."""
        return self._knows

    def hearing(self):
        """Tell what the room heard, a copy."""
        return self._hearing.copied()

    def ids(self, at):
        """Tell tuples (id, command, state) of all ids as they were given, their states at a time."""
        check_time(at)
        return self._orders.ids(at)

    def state(self, ident, at):
        """Tell the state of an id at a time."""
        check_id(ident)
        check_time(at)
        return self._orders.state(ident, at)

    def shelves(self):
        """Tell the shelves as they were put in, tuples (rule, since, end)."""
        return list(self._shelves)

    def log(self):
        """Tell the rows of all deeds that changed anything, in order."""
        return list(self._log)

    def show(self, point, at):
        """Tell what is shown of a point at a moment, a tuple (worth, time, mark, state)."""
        return self._hearing.show(point, at)

    def picture(self, at):
        """Tell a dict from all points to the worths that are shown of them at a moment."""
        return self._hearing.picture(at)

    def alarms(self, at, *, most=9):
        """Tell a tuple (heads, more): the list of alarms at a time, by what has been heard by now."""
        check_time(at)
        events = {rule[0]: raised_by(self._hearing, rule[0], at) for rule in self._works.rules()}
        return alarm_list(self._works, events, at, shelves=self._shelves, most=most)

    def copied(self):
        """Tell a room that stands just so, and goes its own way."""
        twin = Room(self._works, self._number)
        twin._term = self._term
        twin._knows = self._knows
        twin._hearing = self._hearing.copied()
        twin._orders = self._orders.copied()
        twin._shelves = list(self._shelves)
        twin._last = self._last
        twin._log = list(self._log)
        return twin

    def marks(self):
        """Tell a tuple that is equal for just two equal rooms, of equal works."""
        return (
            self._number, self._term, self._knows, self._hearing.marks(), self._orders.marks(),
            tuple(self._shelves), self._last,
        )

    def _check_now(self, time):
        if time < self._last:
            raise NotNow(time)

    def _check_span(self, since, end, time):
        check_time(since)
        check_time(end)
        check_time(time)
        if end <= since:
            raise NoTime(end)
        self._check_now(time)

    def _check_term(self):
        if self._term is None or self._knows > self._term:
            raise NotNow(self._term)

    def _check_locks(self, locks, time):
        for lock in locks:
            worth = self._hearing.show(lock[0], time)[0]
            if worth is not None and not lock_holds(lock, {lock[0]: worth}):
                raise Locked(lock)

    def _take_in(self, letter):
        if letter[0] == "signs":
            return self._hearing.hear(letter)
        if letter[0] == "terms":
            return self._learn(letter[2])
        _, _, ident, word, term, _ = letter
        ended = self._orders.end(ident, word)
        return self._learn(term) or ended

    def _learn(self, term):
        if self._knows is not None and self._knows >= term:
            return False
        self._knows = term
        return True

    def _place_of(self, command):
        return self._works.point(self._works.command(command)[1])[1]

    def _write(self, time, row):
        self._last = time
        self._log.append(row)


def room_of(works, number, rows):
    """Tell the room that did what the rows of a log tell."""
    room = Room(works, number)
    if not isinstance(rows, (list, tuple)):
        raise NoLog(rows)
    for at, row in enumerate(rows):
        if not _is_row(row) or not _did(room, row):
            raise NoRow(at)
    return room


def _is_row(thing):
    if not isinstance(thing, tuple) or not thing or not isinstance(thing[0], str):
        return False
    return thing[0] in _THINGS_IN_ROW and len(thing) == 1 + _THINGS_IN_ROW[thing[0]]


def _did(room, row):
    """Let a room do what a row tells, and tell whether that changed anything."""
    try:
        if row[0] == "heard":
            return room.hears(row[1], row[2])
        _do(room, row[0], row[1:])
    except (PanelError, Absent, Barred):
        return False
    return True


def _do(room, word, things):
    if word == "over":
        room.take_over(*things)
    elif word == "chosen":
        room.choose(*things)
    elif word == "did":
        ident, time, wait = things
        room.do(ident, time, wait=wait)
    elif word == "again":
        room.again(*things)
    elif word == "back":
        room.back(*things)
    elif word == "hand":
        room.hand(*things)
    elif word == "unhand":
        room.unhand(*things)
    elif word == "shelved":
        room.shelve(*things)
    else:
        room.unshelve(*things)
