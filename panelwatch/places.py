"""Places: the true worths of their points, the signs of their changes, and the commands that are done there."""

from panelwatch.errors import NoLetter, NoMark, NoPoint, NotNow, NotThere, NoWorth
from panelwatch.letters import is_order
from panelwatch.words import check_time, is_mark, is_whole
from panelwatch.works import check_place, check_works, lock_holds


class Place:
    """A place of some works, each of whose deeds is done at a time."""

    def __init__(self, works, name):
        check_works(works)
        check_place(works, name)
        self._works = works
        self._name = name
        self._time = 0
        self._term = 0
        self._worths = {point: 0 for point in works.points_at(name)}
        self._marks = {point: "good" for point in self._worths}
        self._waiting = []
        self._sent = []
        self._met = {}
        self._done = []

    def __eq__(self, other):
        return isinstance(other, Place) and self._works == other._works and self.marks() == other.marks()

    def __len__(self):
        return len(self._sent)

    def change(self, point, worth, time, *, mark="good"):
        """Let a point's worth or mark be another one from a time on; tell whether a sign was noted."""
        self._check_here(point)
        if not self._works.is_worth(point, worth):
            raise NoWorth(worth)
        check_time(time)
        if not is_mark(mark):
            raise NoMark(mark)
        self._come_to(time)
        return self._note(point, worth, mark)

    def send(self, time):
        """Send the next letter, with all signs that were not sent yet, and tell it."""
        check_time(time)
        self._come_to(time)
        letter = ("signs", self._name, len(self._sent) + 1, time, tuple(self._waiting))
        self._sent.append(letter)
        self._waiting = []
        return letter

    def letter(self, number):
        """Tell a letter that was sent, as it was."""
        if not is_whole(number, 1, len(self._sent)):
            raise NotThere(number)
        return self._sent[number - 1]

    def hears(self, letter, time):
        """Hear an order from a room and tell the answer."""
        if not is_order(self._works, letter):
            raise NoLetter(letter)
        check_time(time)
        self._come_to(time)
        if letter[0] == "term":
            self._term = max(self._term, letter[1])
            return "terms", self._name, self._term, time
        ident = letter[1]
        # What became of an id stays for ever: so it is done once at most.
        if ident not in self._met:
            self._met[ident] = self._meet(letter)
        return "answer", self._name, ident, self._met[ident], self._term, time

    def name(self):
        """Tell the place's name."""
        return self._name

    def time(self):
        """Tell the time of the last deed."""
        return self._time

    def term(self):
        """Tell the place's own term."""
        return self._term

    def worth(self, point):
        """Tell a point's true worth."""
        self._check_here(point)
        return self._worths[point]

    def mark(self, point):
        """Tell the mark of a point's true worth."""
        self._check_here(point)
        return self._marks[point]

    def waiting(self):
        """Tell the signs that were not sent yet."""
        return list(self._waiting)

    def met(self):
        """Tell what became of all ids that were met, a dict, in the order in which they were met."""
        return {ident: self._met[ident] for ident in self._met}

    def done(self):
        """Tell the commands that were done, tuples (id, command, time), in order."""
        return list(self._done)

    def copied(self):
        """Tell a place that stands just so, and goes its own way."""
        twin = Place(self._works, self._name)
        twin._time = self._time
        twin._term = self._term
        twin._worths = dict(self._worths)
        twin._marks = dict(self._marks)
        twin._waiting = list(self._waiting)
        twin._sent = list(self._sent)
        twin._met = self.met()
        twin._done = list(self._done)
        return twin

    def marks(self):
        """Tell a tuple that is equal for just two equal places of equal works."""
        points = tuple([(self._worths[point], self._marks[point]) for point in self._worths])
        met = tuple([(ident, word) for ident, word in self._met.items()])
        return (
            self._name, self._time, self._term, points, tuple(self._waiting), tuple(self._sent), met,
            tuple(self._done),
        )

    def _check_here(self, point):
        if not self._works.has_point(point) or point not in self._worths:
            raise NoPoint(point)

    def _come_to(self, time):
        if time < self._time:
            raise NotNow(time)
        self._time = time

    def _note(self, point, worth, mark):
        if self._worths[point] == worth and self._marks[point] == mark:
            return False
        self._worths[point] = worth
        self._marks[point] = mark
        self._waiting.append((self._time, point, worth, mark))
        return True

    def _meet(self, letter):
        """Do what a new id orders where it may be done, and tell what became of it."""
        if letter[0] == "back":
            return "refused"
        _, ident, command = letter
        self._term = max(self._term, ident[0])
        if ident[0] != self._term or not self._may_do(command):
            return "refused"
        _, point, worth, _ = self._works.command(command)
        self._note(point, worth, "good")
        self._done.append((ident, command, self._time))
        return "done"

    def _may_do(self, command):
        _, point, _, locks = self._works.command(command)
        return point in self._worths and all([lock_holds(lock, self._worths) for lock in locks])
