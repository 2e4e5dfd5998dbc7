"""Deeds of plants by chance, the same ones for the same seed, and how a plant does a deed's tuple."""

from panelwatch.errors import Absent, Barred, PanelError
from panelwatch.plant import Plant
from tests.chances import worth_of

WORDS = (
    ["wait"] * 4 + ["change"] * 6 + ["send"] * 4 + ["come"] * 16 + ["lose", "double"] + ["choose"] * 4 + ["do"] * 5
    + ["again", "back", "take_over", "hand", "unhand", "shelve", "unshelve", "fall"] + ["rise"] * 2
)


def do(plant, deed):
    """Let a plant do a deed, its tuple, and tell what it tells."""
    word, *things = deed
    if word == "change":
        return plant.change(*things[:2], mark=things[2])
    return getattr(plant, word)(*things)


def plant_that_did(works, deeds):
    plant = Plant(works)
    for deed in deeds:
        do(plant, deed)
    return plant


def mostly(chance, good, others):
    """Mostly one of the good things, where there are any; else one of the others."""
    return chance.choice(good if good and chance.random() < 0.9 else others)


def draw(chance, plant):
    """A deed of a plant that may be done or refused, mostly done."""
    works = plant.works()
    word = chance.choice(WORDS)
    if word == "wait":
        return (word, chance.choice((1, 1, 2, 3, 5, 10)))
    if word == "change":
        point = chance.choice(works.points())[0]
        worth = mostly(chance, [0, 1], [worth_of(chance, works, point)])
        return (word, point, worth, chance.choice(("good",) * 5 + ("odd",)))
    if word == "send":
        return (word, chance.choice(works.places()))
    if word in ("come", "lose", "double"):
        numbers = [row[0] for row in plant.under_way()]
        return (word, mostly(chance, numbers, [0, 1, 9999]))
    rooms = [room for room in (0, 1) if plant.stands(room) != (word == "rise")]
    return _draw_of_room(chance, plant, word, mostly(chance, rooms, [0, 1]))


def _draw_of_room(chance, plant, word, number):
    works, now, room = plant.works(), plant.now(), plant.room(number)
    if word == "choose":
        return (word, number, chance.choice(works.commands())[0])
    if word in ("do", "again", "back"):
        states = {"do": ("chosen",), "again": ("asked", "unknown"), "back": ("chosen", "asked", "unknown")}[word]
        rows = room.ids(now)
        good = [row[0] for row in rows if row[2] in states]
        return (word, number, mostly(chance, good[-2:], [row[0] for row in rows] + [(number, 1)]))
    since = max(0, now + chance.randint(-9, 5))
    end = since + chance.randint(0, 20)
    if word == "hand":
        point = chance.choice(works.points())[0]
        return (word, number, point, worth_of(chance, works, point), since, end)
    if word == "unhand":
        good = [hand[0] for hand in room.hearing().hands() if hand[2] <= now < hand[3]]
        return (word, number, mostly(chance, good, [row[0] for row in works.points()]))
    if word == "shelve":
        return (word, number, chance.choice(works.rules())[0], since, end)
    if word == "unshelve":
        good = [shelf[0] for shelf in room.shelves() if shelf[1] <= now < shelf[2]]
        return (word, number, mostly(chance, good, [row[0] for row in works.rules()]))
    return (word, number)


def may_be_done(plant, deed):
    """Whether a deed stays within the document's bounds: forty letters of a place, of twelve signs each."""
    if deed[0] == "send":
        place = plant.place(deed[1])
        return len(place) < 40 and len(place.waiting()) <= 12
    return True


def some_deeds(chance, works, many):
    """Deeds that a plant of some works does one behind the other, so many or less."""
    plant = Plant(works)
    for _ in range(many):
        deed = draw(chance, plant)
        if may_be_done(plant, deed):
            try:
                do(plant, deed)
            except (PanelError, Absent, Barred):
                pass
    return plant.deeds()
