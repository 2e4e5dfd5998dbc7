"""Tests of panelwatch.deedtexts: point 133."""

import random
import unittest

from panelwatch.deedtexts import deed_of, deed_text, plant_of, plant_text
from panelwatch.errors import Absent, Barred, NoDeed, NoPlant, NoPoint, NoPoints, NoRow, NoText, PanelError, Twice
from panelwatch.plant import Plant
from panelwatch.texts import works_text
from panelwatch.works import Works
from tests import deeds
from tests.large import in_time, large_works
from tests.models import look_at_plant
from tests.test_texts import ROWS, TEXT, WORDS
from tests.things import POINTS, PanelCase, among, name, others, sample, whole, wrong

NO_TEXTS = wrong(lambda thing: type(thing) is str)
DEEDS = [
    (("wait", 5), "wait 5"), (("change", "lv", 40, "odd"), "change lv 40 odd"),
    (("change", "v", 1, "good"), "change v 1 good"), (("send", "north"), "send north"), (("come", 12), "come 12"),
    (("lose", 0), "lose 0"), (("double", 9999), "double 9999"), (("choose", 1, "open"), "choose 1 open"),
    (("take_over", 0), "over 0"), (("do", 0, (2, 1)), "do 0 2 1"), (("again", 1, (999, 999)), "again 1 999 999"),
    (("back", 0, (0, 1)), "back 0 0 1"), (("hand", 1, "lv", 9, 30, 60), "hand 1 lv 9 30 60"),
    (("unhand", 0, "lv"), "unhand 0 lv"), (("shelve", 1, "high", 3, 9), "shelve 1 high 3 9"),
    (("unshelve", 0, "high"), "unshelve 0 high"), (("fall", 1), "fall 1"), (("rise", 0), "rise 0"),
]
NUMBER, ROOM = whole(0, 9999), whole(0, 1)
KINDS = {
    "wait": (NUMBER,), "change": (name, NUMBER, among("good", "odd")), "send": (name,), "come": (NUMBER,),
    "lose": (NUMBER,), "double": (NUMBER,), "choose": (ROOM, name), "take_over": (ROOM,), "unhand": (ROOM, name),
    "hand": (ROOM, name, NUMBER, NUMBER, NUMBER), "shelve": (ROOM, name, NUMBER, NUMBER), "unshelve": (ROOM, name),
    "fall": (ROOM,), "rise": (ROOM,),
}


def ident(thing):
    return type(thing) is tuple and len(thing) == 2 and whole(0, 999)(thing[0]) and whole(1, 999)(thing[1])


KINDS.update({word: (ROOM, ident) for word in ("do", "again", "back")})


def is_deed(thing):
    """By the words of point 133, apart from the program."""
    if type(thing) is not tuple or not thing or type(thing[0]) is not str or thing[0] not in KINDS:
        return False
    kinds = KINDS[thing[0]]
    return len(thing) == len(kinds) + 1 and all(fits(part) for fits, part in zip(kinds, thing[1:]))


def deed_by_words(text):
    """The deed that a text writes, or None, apart from the program."""
    words = text.split(" ")
    things = [int(word) if word.isdigit() and str(int(word)) == word else word for word in words]
    if things[0] in ("do", "again", "back") and len(things) == 4:
        things[2:] = [tuple(things[2:])]
    if things[0] in ("over", "take_over"):
        things[0] = "take_over" if things[0] == "over" else "over"
    return tuple(things) if is_deed(tuple(things)) else None


class DeedTest(PanelCase):
    def test_written_and_read(self):
        for deed, text in DEEDS:
            self.is_just(deed_text(deed), text)
            self.is_just(deed_text(deed=deed), text)
            self.is_just(deed_of(text), deed)
            self.is_just(deed_of(text=text), deed)

    def test_whether_it_can_be_done_or_not(self):
        for deed in (("wait", 0), ("wait", 9999), ("change", "zz", 9999, "good"), ("send", "zz"), ("come", 0),
                     ("choose", 0, "zz"), ("hand", 0, "zz", 64, 9, 3), ("shelve", 0, "zz", 9, 3)):
            self.is_just(deed_of(deed_text(deed)), deed)

    def test_each_thing_otherwise(self):
        more = [10000, -1, 9999, "abcdefgh", "abcdefghi", (0, 1), (0, 0), (1000, 1), [0, 1], (0, True), "over",
                "take_over"]
        many = [0, 0]
        for deed, _ in DEEDS:
            near = [list(deed), deed[:-1], (*deed, 1), (*deed, "good"), deed[1:], (deed,), ()]
            for at in range(len(deed)):
                near.extend((*deed[:at], thing, *deed[at + 1:]) for thing in [*others(), *more])
            for thing in near:
                good = is_deed(thing)
                many[good] += 1
                if good:
                    self.is_just(deed_of(deed_text(thing)), thing)
                else:
                    self.refused(NoDeed, thing, deed_text, thing)
        self.assertGreater(min(many), 100)

    def test_no_deeds(self):
        things = [*others(), ("over", 0), ("take_over", 2), ("change", "lv", 40), ("do", 0, 2, 1), ("do", 0, [2, 1]),
                  DEEDS]
        self.look_at_arguments(deed_text, ("deed", DEEDS[0][0], things, NoDeed))

    def test_no_texts(self):
        near = ["", " ", "\n", "undo", "now", "take_over 0", "over", "over 2", "change lv 40", "do 0 2", "do 0 2 1 1",
                *ROWS]
        for _, text in DEEDS:
            near.extend([
                text + " ", " " + text, text.replace(" ", "  ", 1), text + "\n", "\n" + text, text.upper(), text[1:],
                text.replace(" ", "\n", 1), text + " 1", text + " good", text.replace(" ", " 0", 1),
                text.replace(" ", ""),
            ])
        near = [text for text in near if deed_by_words(text) is None]
        self.look_at_arguments(deed_of, ("text", "wait 5", [*others(), *near], NoText))

    def test_each_word_otherwise(self):
        many = [0, 0]
        for _, text in DEEDS:
            words = text.split(" ")
            for place in range(len(words)):
                for word in [*WORDS, "wait", "change", "over", "take_over", "do", "fall", "hand", "choose"]:
                    other = " ".join([*words[:place], word, *words[place + 1:]])
                    deed = deed_by_words(other)
                    many[deed is not None] += 1
                    if deed is None:
                        self.refused(NoText, other, deed_of, other)
                    else:
                        self.is_just(deed_of(other), deed)
                        self.is_just(deed_text(deed), other)
        self.assertGreater(min(many), 200)


class PlantTextTest(PanelCase):
    ROW = ["wait 3", "change lv 46 odd", "send north", "come 1", "choose 0 fill", "do 0 0 1", "over 1", "fall 0",
           "rise 0"]

    def test_written(self):
        self.is_just(plant_text(Plant(sample())), TEXT)
        plant = plant_of("\n".join([TEXT, *self.ROW]))
        self.is_just(plant_text(plant=plant), "\n".join([TEXT, *self.ROW]))
        self.is_just(plant.deeds(), [deed_of(row) for row in self.ROW])
        self.is_just(plant.now(), 3)

    def test_what_is_written_is_read_as_the_same(self):
        chance = random.Random(133)
        for works in [sample()] * 15 + [Works(POINTS)] + [large_works()] * 5:
            made = deeds.some_deeds(chance, works, 80) if works.commands() else [("wait", 3), ("send", "dam")]
            plant = deeds.plant_that_did(works, made)
            text = plant_text(plant)
            other = plant_of(text=text)
            self.assertTrue(plant == other)
            self.is_just(look_at_plant(plant, (0, 30)), look_at_plant(other, (0, 30)))
            self.is_just(plant_text(other), text)

    def test_the_plant_s_own_way(self):
        plant = plant_of("\n".join([TEXT, *self.ROW]))
        text = plant_text(plant)
        plant_of(text).wait(5)
        self.is_just(plant_text(plant), text)

    def test_cut_at_each_row(self):
        chance = random.Random(134)
        made = deeds.some_deeds(chance, sample(), 60)
        rows = plant_text(deeds.plant_that_did(sample(), made)).split("\n")
        for many in range(len(rows) + 1):
            text = "\n".join(rows[:many])
            if many == 0:
                self.refused(NoRow, 0, plant_of, text)
                continue
            works = sample() if many >= len(ROWS) else None
            if works is None:
                try:
                    self.is_just(plant_text(plant_of(text)), text)
                except NoPoint as error:
                    self.assertIn(error.found, [row[0] for row in POINTS])
                continue
            self.assertTrue(plant_of(text) == deeds.plant_that_did(works, made[:many - len(ROWS)]))
            # A line feed at the end begins a row that writes nothing.
            self.refused(NoRow, many, plant_of, text + "\n")

    def test_one_row_otherwise(self):
        chance = random.Random(135)
        many = [0, 0]
        for _ in range(12):
            made = deeds.some_deeds(chance, sample(), 50)
            for at in range(len(made)):
                for changed in ([*made[:at], *made[at + 1:]], [*made[:at + 1], *made[at:]],
                                [*made[:at], chance.choice(DEEDS)[0], *made[at + 1:]]):
                    text = "\n".join([TEXT, *[deed_text(deed) for deed in changed]])
                    plant, first = Plant(sample()), None
                    for row, deed in enumerate(changed):
                        try:
                            deeds.do(plant, deed)
                        except (PanelError, Absent, Barred):
                            first = len(ROWS) + row
                            break
                    many[first is None] += 1
                    if first is None:
                        self.assertTrue(plant_of(text) == plant)
                    else:
                        self.refused(NoRow, first, plant_of, text)
        self.assertGreater(min(many), 50)

    def test_rows_that_write_no_deed(self):
        for row in ("", "wait", "wait 05", "wait 10000", " wait 5", "wait 5 ", "take_over 0", "undo", "now", "over  0",
                    ROWS[0], ROWS[-1]):
            for at in range(1, len(self.ROW) + 1):
                rows = [TEXT, *self.ROW[:at], row, *self.ROW[at:]]
                self.refused(NoRow, len(ROWS) + at, plant_of, "\n".join(rows))
        # The first one that is due, be it one that writes none or one that is refused.
        self.refused(NoRow, len(ROWS) + 1, plant_of, TEXT + "\nwait 5\ncome 9\nwait")
        self.refused(NoRow, len(ROWS) + 1, plant_of, TEXT + "\nwait 5\nwait\ncome 9")
        self.refused(NoRow, len(ROWS), plant_of, TEXT + "\nwait 0\nwait")

    def test_works_ahead(self):
        def refused(error, value, text):
            with self.assertRaises(error) as caught:
                plant_of(text)
            self.is_just(caught.exception.found, value)

        refused(NoPoints, [], "wait 5")
        refused(NoPoints, [], "wait 0\npoint a x level")
        refused(NoPoints, [], ROWS[18] + "\nwait 5")
        refused(Twice, "lv", "\n".join([ROWS[0], ROWS[0], "wait 0", ""]))
        for at, row in enumerate(["", "point", "wait", "wait 10000", "points a x level", "rule a"]):
            self.refused(NoRow, 1, plant_of, "\n".join([ROWS[0], row, "wait 5", "wait 0"]))
            self.refused(NoRow, 0, plant_of, "\n".join([row, ROWS[0], "wait 5"]))
            self.refused(NoRow, 1, plant_of, "\n".join([ROWS[0], row]))
        self.refused(NoRow, 1, plant_of, "\n".join([ROWS[0], "wait 5 ", "wait 5"]))
        self.refused(NoRow, 0, plant_of, "")

    def test_kinds(self):
        no_plants = wrong(lambda thing: isinstance(thing, Plant))
        self.look_at_arguments(plant_text, ("plant", Plant(sample()), no_plants, NoPlant))
        self.look_at_arguments(lambda **named: plant_text(plant_of(**named)),
                               ("text", TEXT + "\nwait 5", NO_TEXTS, NoText))

    def test_the_largest_in_time(self):
        chance, works = random.Random(136), large_works()
        plant = Plant(works)
        while len(plant.deeds()) < 1000:
            deed = deeds.draw(chance, plant)
            if deeds.may_be_done(plant, deed):
                try:
                    deeds.do(plant, deed)
                except (PanelError, Absent, Barred):
                    pass
        text = in_time(self, lambda: plant_text(plant))
        other = in_time(self, lambda: plant_of(text), 3)
        self.assertTrue(plant == other)
        self.is_just(other.deeds(), plant.deeds())
        self.assertEqual(in_time(self, lambda: works_text(plant.works())) + "\n", text[:len(works_text(works)) + 1])
        for long in ("wait 1\n" * 2800, TEXT + "\nwait 1" * 2700, "a" * 20000, "\n" * 20000, TEXT + "\n" * 19000):
            try:
                in_time(self, lambda: plant_of(long), 3)
            except (NoRow, NoPoints):
                pass


if __name__ == "__main__":
    unittest.main()
