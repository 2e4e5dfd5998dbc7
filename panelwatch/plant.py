"""The plant: the places, both rooms, the road between them, and the one clock."""

from panelwatch.errors import Down, Stands
from panelwatch.places import Place
from panelwatch.roads import Road
from panelwatch.rooms import Room, room_of
from panelwatch.words import MOST_TIME, check_room, check_whole, is_room
from panelwatch.works import check_place, check_works


class Plant:
    """A plant of some works, each of whose deeds is done at the time that its clock tells."""

    def __init__(self, works):
        check_works(works)
        self._works = works
        self._now = 0
        self._places = {name: Place(works, name) for name in works.places()}
        self._rooms = [Room(works, 0), Room(works, 1)]
        self._road = Road(works)
        # Of each room whether it stands.
        self._upright = [True, True]
        self._deeds = []

    def __eq__(self, other):
        return isinstance(other, Plant) and self.marks() == other.marks()

    def works(self):
        """Tell the works."""
        return self._works

    def now(self):
        """Tell the clock."""
        return self._now

    def place(self, name):
        """Tell a place, a copy."""
        check_place(self._works, name)
        return self._places[name].copied()

    def room(self, number):
        """Tell a room, a copy; one that fell as it was then."""
        check_room(number)
        return self._rooms[number].copied()

    def under_way(self):
        """Tell tuples (number, start, goal, letter) of all that is under way."""
        return self._road.under_way()

    def stands(self, room):
        """Tell whether a room stands."""
        check_room(room)
        return self._upright[room]

    def wait(self, many):
        """Let the clock go on by so many ticks."""
        check_whole(many, 1, MOST_TIME - self._now)
        self._now += many
        self._deeds.append(("wait", many))

    def change(self, point, worth, *, mark="good"):
        """Let a point's worth or mark be another one from now on."""
        self._places[self._works.point(point)[1]].change(point, worth, self._now, mark=mark)
        self._deeds.append(("change", point, worth, mark))

    def send(self, place):
        """Let a place send its next letter to both rooms."""
        # A letter of more signs than one may have is refused by the road: then nothing was sent.
        sender = self.place(place)
        self._put_to_rooms(place, sender.send(self._now))
        self._places[place] = sender
        self._deeds.append(("send", place))

    def come(self, number):
        """Let what is under way come to its goal; tell whether the room changed, and True of a place."""
        _, goal, letter = self._road.take(number)
        told = self._room_hears(goal, letter) if is_room(goal) else self._place_hears(goal, letter)
        self._deeds.append(("come", number))
        return told

    def lose(self, number):
        """Let what is under way be lost."""
        self._road.lose(number)
        self._deeds.append(("lose", number))

    def double(self, number):
        """Let what is under way be doubled, and tell the other one's number."""
        other = self._road.double(number)
        self._deeds.append(("double", number))
        return other

    def choose(self, room, command):
        """Let a room choose a command, and tell its id."""
        ident = self._standing_room(room).choose(command, self._now)
        self._deeds.append(("choose", room, command))
        return ident

    def do(self, room, ident):
        """Let a room want done what it chose."""
        self._put(room, self._standing_room(room).do(ident, self._now))
        self._deeds.append(("do", room, ident))

    def again(self, room, ident):
        """Let a room want done once more what is under way."""
        self._put(room, self._standing_room(room).again(ident, self._now))
        self._deeds.append(("again", room, ident))

    def back(self, room, ident):
        """Let a room drop what is chosen, or want back what is under way."""
        self._put(room, self._standing_room(room).back(ident, self._now))
        self._deeds.append(("back", room, ident))

    def take_over(self, room):
        """Let a room take its next term."""
        for told in self._standing_room(room).take_over(self._now):
            self._put(room, told)
        self._deeds.append(("take_over", room))

    def hand(self, room, point, worth, since, end):
        """Put in a worth of a point by hand at a room."""
        self._standing_room(room).hand(point, worth, since, end, self._now)
        self._deeds.append(("hand", room, point, worth, since, end))

    def unhand(self, room, point):
        """Take out the hand of a point that counts now at a room."""
        self._standing_room(room).unhand(point, self._now)
        self._deeds.append(("unhand", room, point))

    def shelve(self, room, rule, since, end):
        """Shelve a rule at a room."""
        self._standing_room(room).shelve(rule, since, end, self._now)
        self._deeds.append(("shelve", room, rule, since, end))

    def unshelve(self, room, rule):
        """Let the shelves of a rule that count now at a room end."""
        self._standing_room(room).unshelve(rule, self._now)
        self._deeds.append(("unshelve", room, rule))

    def fall(self, room):
        """Let a room fall."""
        self._standing_room(room)
        self._upright[room] = False
        self._deeds.append(("fall", room))

    def rise(self, room):
        """Let a room that fell stand again, made anew of its log."""
        check_room(room)
        if self._upright[room]:
            raise Stands(room)
        self._rooms[room] = room_of(self._works, room, self._rooms[room].log())
        self._upright[room] = True
        self._deeds.append(("rise", room))

    def deeds(self):
        """Tell the tuples of all deeds that were done, in order."""
        return list(self._deeds)

    def copied(self):
        """Tell a plant that stands just so, and goes its own way."""
        twin = Plant(self._works)
        twin._now = self._now
        twin._places = {name: place.copied() for name, place in self._places.items()}
        twin._rooms = [room.copied() for room in self._rooms]
        twin._road = self._road.copied()
        twin._upright = list(self._upright)
        twin._deeds = list(self._deeds)
        return twin

    def marks(self):
        """Tell a tuple that is equal for just two equal plants."""
        works = self._works
        lists = (works.points(), works.rules(), works.causes(), works.commands(), works.relations())
        # The letters go without their numbers, in an order that doesn't hang on these.
        borne = sorted([(start, goal, letter) for _, start, goal, letter in self.under_way()], key=str)
        return (
            tuple([tuple(rows) for rows in lists]), self._now,
            tuple([self._places[name].marks() for name in self._places]),
            tuple([room.marks() for room in self._rooms]), tuple(self._upright), tuple(borne),
        )

    def _standing_room(self, number):
        check_room(number)
        if not self._upright[number]:
            raise Down(number)
        return self._rooms[number]

    def _put(self, room, told):
        # What was chosen and is dropped needs no letter.
        if told is not None:
            place, letter = told
            self._road.put(room, place, letter)

    def _put_to_rooms(self, place, letter):
        for room in (0, 1):
            self._road.put(place, room, letter)

    def _place_hears(self, place, letter):
        self._put_to_rooms(place, self._places[place].hears(letter, self._now))
        return True

    def _room_hears(self, room, letter):
        # With a room that fell the letter is lost.
        return self._upright[room] and self._rooms[room].hears(letter, self._now)
