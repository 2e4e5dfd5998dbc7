"""Asks: what a desk tells of its plant in texts, changing nothing."""

from panelwatch.falsesigns import picture_at, suspects
from panelwatch.forms import are_of_kinds, row_of
from panelwatch.texts import letter_text
from panelwatch.trends import coarse

_KINDS = {
    "now": (), "road": (), "show": ("room", "name", "number"), "ids": ("room", "number"),
    "alarms": ("room", "number", "number"), "trend": ("room", "name", "number", "number", "number"),
    "doubt": ("room", "number"),
}


def is_ask(things):
    """Tell whether the things that a line writes are an ask."""
    return len(things) > 0 and things[0] in _KINDS and are_of_kinds(_KINDS[things[0]], things[1:])


def told_of(plant, things):
    """Tell the texts that an ask tells of a plant."""
    word = things[0]
    if word == "now":
        return [str(plant.now())]
    if word == "road":
        return _road_texts(plant)
    room = plant.room(things[1])
    if word == "show":
        return [row_of(["-" if thing is None else thing for thing in room.show(things[2], things[3])])]
    if word == "ids":
        return [row_of(row) for row in room.ids(things[2])]
    if word == "alarms":
        return _alarm_texts(room, things[2], things[3])
    if word == "trend":
        _, _, point, size, since, till = things
        return [row_of(row) for row in coarse(room.hearing().history(point), size, since, till)]
    return _doubt_texts(room, things[2])


def _road_texts(plant):
    return [
        f"{number} {start} {goal} {letter_text(plant.works(), letter)}"
        for number, start, goal, letter in plant.under_way()
    ]


def _alarm_texts(room, at, most):
    heads, more = room.alarms(at, most=most)
    texts = []
    for name, raised, under in heads:
        behind = ", ".join([row_of(event) for event in under])
        texts.append(f"{name} {raised}: {behind}" if under else f"{name} {raised}")
    return [*texts, f"more {more}"] if more else texts


def _doubt_texts(room, at):
    works, hearing = room.works(), room.hearing()
    histories = {name: hearing.history(name) for name, _, _ in works.points()}
    return [
        ", ".join([row_of(pair) for pair in zip(points, worths)]) if points else "none"
        for points, worths in suspects(works, picture_at(works, histories, at))
    ]
