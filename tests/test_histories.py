"""
Whole histories of deeds: points 91 to 115 against the models, what points 8 and 115 promise of them, and the largest
that the document allows.
"""

import random
import time
import unittest

from panelwatch.alarms import sure_events
from panelwatch.errors import Absent, Barred, PanelError
from panelwatch.plainroom import PlainRoom
from panelwatch.plant import Plant
from panelwatch.rooms import Room, room_of
from panelwatch.words import room_of_term
from panelwatch.works import Works
from tests import deeds
from tests.large import NAMES, in_time, large_works, letters_of_all
from tests.models import PlantModel, Refused, look_at_plant
from tests.things import PanelCase, sample

REFUSALS = (PanelError, Absent, Barred)


def told_or_refused(do, deed):
    """What a deed tells, or how it is refused."""
    try:
        return "told", do(deed)
    except Refused as refused:
        return refused.error, refused.value
    except REFUSALS as error:
        return type(error), error.many if hasattr(error, "many") else error.found


def plain_works():
    """Works of one place, whose rules are short of hold and whose commands have few locks."""
    rules = [("up", "a", "above", 0, 0, 0, 2), ("down", "a", "below", 1, 0, 2, 1), ("on", "b", "above", 0, 0, 1, 1)]
    return Works(
        [("a", "x", "level"), ("b", "x", "switch")], rules=rules, causes=[("up", "on", 9), ("down", "on", 2)],
        commands=[("put", "a", 1, (("b", "below", 1),)), ("turn", "b", 1, ()), ("off", "b", 0, (("a", "above", 0),))],
    )


class ModelTest(PanelCase):
    def go_on_together(self, seed, works, many):
        chance = random.Random(seed)
        plant, model = Plant(works), PlantModel(works)
        words = []
        for _ in range(many):
            deed = deeds.draw(chance, plant)
            if not deeds.may_be_done(plant, deed):
                continue
            moments = [plant.now(), max(0, plant.now() + chance.randint(-20, 12))]
            ahead = look_at_plant(plant, moments), plant.marks()
            told = told_or_refused(lambda one: deeds.do(plant, one), deed)
            self.is_just(told, told_or_refused(model.do, deed))
            self.is_just(look_at_plant(plant, moments), model.look(moments))
            if told[0] != "told":
                self.is_just((look_at_plant(plant, moments), plant.marks()), ahead)
            words.append((deed[0], told[0] if told[0] == "told" else told[0].__name__))
        for number in (0, 1):
            for at in (0, plant.now() // 2, plant.now(), plant.now() + 30):
                self.is_just(plant.room(number).alarms(at), model.rooms[number].alarms(at))
        return words

    def test_whole_histories(self):
        words = []
        for seed in range(30):
            words.extend(self.go_on_together(seed, sample(), 120))
            words.extend(self.go_on_together(seed + 1000, plain_works(), 100))
        for word in set(deeds.WORDS):
            self.assertGreater(words.count((word, "told")), 15, word)
        for word, kind in (("choose", "Locked"), ("choose", "NotNow"), ("do", "NotNow"), ("do", "NotThere"),
                           ("again", "NotNow"), ("back", "NotThere"), ("come", "NotOnRoad"), ("unhand", "NotThere"),
                           ("unshelve", "NotThere"), ("hand", "NoTime"), ("rise", "Stands"), ("choose", "Down")):
            self.assertGreater(words.count((word, kind)), 3, (word, kind))


class PromisesTest(PanelCase):
    """Points 8 and 115."""

    def look_at_room(self, room, plain, at):
        """What is sure is what the plain room shows, and for ever."""
        for name, place, _ in room.works().points():
            known = room.hearing().known(place)
            told = room.show(name, at)
            if told[3] != "hand":
                self.is_just(told[3], "sure" if known is not None and at < known else "open")
            if told[3] == "sure":
                self.is_just(told, plain.show(name, at))

    def look_at_alarms(self, room, plain):
        """Each sure event stays; what it lacks comes later alone; no other one comes ahead of the known time."""
        for rule in room.works().rules():
            known = room.hearing().known(room.works().point(rule[1])[1])
            told, all_told = sure_events(room.hearing(), rule[0]), sure_events(plain, rule[0])
            ahead = [event for event in all_told if known is not None and event[0] < known]
            self.is_just([event[0] for event in told], [event[0] for event in ahead])
            for one, other in zip(told, ahead):
                if one[1] is None:
                    self.assertTrue(other[1] is None or other[1] >= known)
                else:
                    self.is_just(one, other)

    def look_at_command(self, before, plant, number):
        """A command is done by a letter of the room to which the place's term belongs, while its locks hold."""
        row = [row for row in before.under_way() if row[0] == number][0]
        if row[2] in (0, 1):
            return 0
        place, after = before.place(row[2]), plant.place(row[2])
        done = after.done()[len(place.done()):]
        for (term, at), command, when in done:
            self.is_just((row[1], row[3]), (room_of_term(after.term()), ("do", (term, at), command)))
            self.is_just((term, when), (after.term(), plant.now()))
            self.assertNotIn((term, at), place.met())
            for point, word, limit in plant.works().command(command)[3]:
                worth = place.worth(point)
                self.assertTrue(worth > limit if word == "above" else worth < limit)
        for ident, word in place.met().items():
            self.is_just(after.met()[ident], word)
        return len(done)

    def look_at_ends(self, plant, ended):
        for number in (0, 1):
            for ident, command, state in plant.room(number).ids(plant.now()):
                if state in ("done", "refused"):
                    place = plant.place(plant.works().point(plant.works().command(command)[1])[1])
                    self.is_just(state, place.met()[ident])
                    self.is_just(ended.setdefault(ident, state), state)

    def go_through(self, seed, works):
        chance = random.Random(seed)
        plant, rooms, ended, many = Plant(works), [], {}, 0
        for step in range(150):
            deed = deeds.draw(chance, plant)
            before = plant.copied()
            try:
                if deeds.may_be_done(plant, deed):
                    deeds.do(plant, deed)
            except REFUSALS:
                continue
            if deed[0] == "come":
                many += self.look_at_command(before, plant, deed[1])
            if deed[0] in ("fall", "rise"):
                self.assertTrue(plant.room(deed[1]) == before.room(deed[1]))
            if step % 10 == 0:
                rooms.extend([plant.room(0), plant.room(1)])
                self.look_at_ends(plant, ended)
        letters = []
        for name in works.places():
            if len(plant.place(name).waiting()) <= 12:
                plant.send(name)
            place = plant.place(name)
            letters.extend(place.letter(number) for number in range(1, len(place) + 1))
        plain = PlainRoom(works, letters)
        # Both rooms hear all that was sent: then they show the same, and all of it is sure.
        for number in (0, 1):
            room = room_of(works, number, plant.room(number).log())
            for letter in chance.sample(letters, len(letters)):
                room.hears(letter, 9999)
            for name in works.places():
                self.is_just(room.hearing().known(name), plain.known(name))
            rooms.append(room)
        for room in rooms:
            self.look_at_alarms(room, plain)
            for at in [*range(0, plant.now(), max(1, plant.now() // 12)), plant.now()]:
                self.look_at_room(room, plain, at)
        return many

    def test_whole_histories(self):
        many = [self.go_through(seed, sample()) for seed in range(20)]
        many.extend(self.go_through(seed, plain_works()) for seed in range(20))
        self.assertGreater(sum(many), 40)

    def test_letters_lost_doubled_late_and_in_every_order(self):
        chance = random.Random(8)
        for _ in range(40):
            plant = Plant(sample())
            for at in range(12):
                plant.wait(chance.randint(1, 4))
                plant.change("lv", at * 5 + 1)
                plant.change("w", at % 2, mark=chance.choice(("good", "odd")))
                plant.send(chance.choice(("north", "dam", "east")))
            while plant.under_way():
                number = chance.choice(plant.under_way())[0]
                deeds.do(plant, (chance.choice(("come", "come", "come", "lose", "double")), number))
            letters = [plant.place(name).letter(at + 1) for name in ("dam", "east", "north")
                       for at in range(len(plant.place(name)))]
            for number in (0, 1):
                room, plain = plant.room(number), PlainRoom(sample(), letters)
                self.assertLess(len(room.hearing()), 13)
                for at in range(plant.now() + 1):
                    self.look_at_room(room, plain, at)

    def test_two_rooms_by_turns(self):
        plant = Plant(sample())
        plant.choose(0, "fill")
        plant.choose(0, "fill")
        plant.do(0, (0, 1))
        plant.take_over(1)
        plant.choose(1, "fill")
        plant.do(1, (1, 1))
        goals = {row[0]: row[2:] for row in plant.under_way()}
        first, = [number for number, row in goals.items() if row[1] == ("do", (0, 1), "fill")]
        last, = [number for number, row in goals.items() if row[1] == ("do", (1, 1), "fill")]
        plant.come(last)
        plant.come(first)
        self.is_just(plant.place("east").met(), {(1, 1): "done", (0, 1): "refused"})
        self.is_just([row[3] for row in plant.under_way() if row[2] == 0], [
            ("answer", "east", (1, 1), "done", 1, 0), ("answer", "east", (0, 1), "refused", 1, 0),
        ])
        for row in plant.under_way():
            if row[2] == 0:
                plant.come(row[0])
        self.is_just(plant.room(0).ids(0), [((0, 1), "fill", "refused"), ((0, 2), "fill", "chosen")])
        # It knows of the other one's term now, and commands no more.
        self.is_just(told_or_refused(lambda deed: deeds.do(plant, deed), ("do", 0, (0, 2)))[1], 0)
        plant.take_over(0)
        self.is_just((plant.room(0).term(), plant.room(1).term()), (2, 1))

    def test_a_room_that_falls_while_letters_are_under_way(self):
        plant = Plant(sample())
        plant.choose(0, "fill")
        plant.do(0, (0, 1))
        plant.fall(0)
        plant.come(1)
        plant.double(2)
        plant.come(2)
        plant.wait(20)
        plant.rise(0)
        self.is_just(plant.room(0).state((0, 1), 20), "unknown")
        plant.again(0, (0, 1))
        plant.come(5)
        self.is_just(plant.place("east").done(), [((0, 1), "fill", 0)])
        plant.come(6)
        self.is_just(plant.room(0).state((0, 1), 20), "done")
        plant.come(4)
        self.is_just(plant.room(0).state((0, 1), 20), "done")


class LargestTest(PanelCase):
    """The largest that the document allows is answered in time."""

    def test_a_room(self):
        works = large_works()
        room = Room(works, 0)
        for letter in letters_of_all(random.Random(5), works):
            room.hears(letter, 1)
        for at in range(20):
            room.shelve(NAMES[at % 6], at * 20, at * 20 + 30, 2)
        for at in range(200):
            room.hand("pa", at % 64, at, at + 300, 3)
        for at in range(1, 200):
            room.choose("cb", 4)
            room.do((0, at), 4)
        self.assertEqual(len(room.log()), 120 + 20 + 200 + 398)
        in_time(self, lambda: [room.alarms(at) for at in range(100)])
        in_time(self, lambda: [room.picture(at) for at in range(200)])
        in_time(self, lambda: [room.ids(at) for at in range(200)])
        self.assertTrue(in_time(self, lambda: room_of(works, 0, room.log()) == room))
        self.assertTrue(in_time(self, lambda: room.copied().marks() == room.marks()))

    def test_a_plant_of_a_thousand_deeds(self):
        chance, works = random.Random(6), large_works()
        plant = Plant(works)
        began = time.perf_counter()
        while len(plant.deeds()) < 1000:
            deed = deeds.draw(chance, plant)
            if deeds.may_be_done(plant, deed):
                told_or_refused(lambda one: deeds.do(plant, one), deed)
        self.assertLess(time.perf_counter() - began, 10)
        other = in_time(self, lambda: deeds.plant_that_did(works, plant.deeds()))
        self.assertTrue(in_time(self, lambda: plant == other))
        self.assertTrue(in_time(self, lambda: plant.marks() == other.marks()))
        self.assertTrue(in_time(self, lambda: plant.copied() == other))
        for number in (0, 1):
            log = plant.room(number).log()
            self.assertTrue(in_time(self, lambda: room_of(works, number, log)) == plant.room(number))

    def test_hundreds_of_falls(self):
        plant = Plant(large_works())
        for _ in range(300):
            plant.hand(0, "pa", 1, 0, 9)
        began = time.perf_counter()
        for _ in range(350):
            plant.fall(0)
            plant.rise(0)
        self.assertLess(time.perf_counter() - began, 5)

    def test_the_clock_s_end(self):
        plant = Plant(sample())
        plant.choose(0, "fill")
        plant.wait(9999)
        plant.change("lv", 46)
        plant.send("north")
        for number in (1, 2):
            plant.come(number)
        plant.do(0, (0, 1))
        plant.come(3)
        plant.come(4)
        self.is_just(plant.room(0).ids(9999), [((0, 1), "fill", "done")])
        self.is_just(plant.room(0).show("lv", 9999), (46, 9999, "good", "open"))
        self.is_just(plant.room(0).show("lv", 9998), (None, None, None, "sure"))


if __name__ == "__main__":
    unittest.main()
