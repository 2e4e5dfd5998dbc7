"""Texts of a plant's deeds, and of whole plants."""

from panelwatch.errors import Absent, Barred, NoDeed, NoPlant, NoRow, NoText, PanelError
from panelwatch.forms import are_of_kinds, row_of, things_in
from panelwatch.plant import Plant
from panelwatch.texts import check_text, works_of_rows, works_text

_KINDS = {
    "wait": ("number",), "change": ("name", "number", "mark"), "send": ("name",), "come": ("number",),
    "lose": ("number",), "double": ("number",), "choose": ("room", "name"), "take_over": ("room",),
    "do": ("room", "ident"), "again": ("room", "ident"), "back": ("room", "ident"),
    "hand": ("room", "name", "number", "number", "number"), "unhand": ("room", "name"),
    "shelve": ("room", "name", "number", "number"), "unshelve": ("room", "name"), "fall": ("room",),
    "rise": ("room",),
}


def deed_text(deed):
    """Tell the text of a deed's tuple."""
    if not _is_deed(deed):
        raise NoDeed(deed)
    return row_of(("over", deed[1])) if deed[0] == "take_over" else row_of(deed)


def deed_of(text):
    """Tell the deed's tuple that a text writes."""
    deed = deed_in(text)
    if deed is None:
        raise NoText(text)
    return deed


def deed_in(text):
    """Tell the deed's tuple that a thing writes, or None."""
    things = things_in(text)
    # The one deed whose word in texts is another one: its own word writes nothing.
    if things[:1] == ["take_over"]:
        return None
    if things[:1] == ["over"]:
        things[0] = "take_over"
    if things and _KINDS.get(things[0]) == ("room", "ident"):
        things[2:] = [tuple(things[2:])]
    deed = tuple(things)
    return deed if _is_deed(deed) else None


def _is_deed(thing):
    if not isinstance(thing, tuple) or not thing or not isinstance(thing[0], str):
        return False
    return thing[0] in _KINDS and are_of_kinds(_KINDS[thing[0]], thing[1:])


def plant_text(plant):
    """Tell the text of a plant."""
    if not isinstance(plant, Plant):
        raise NoPlant(plant)
    return "\n".join([works_text(plant.works()), *[deed_text(deed) for deed in plant.deeds()]])


def plant_of(text):
    """Tell the plant that has done the deeds that a text writes."""
    check_text(text)
    rows = text.split("\n")
    deeds = [deed_in(row) for row in rows]
    first = min([at for at, deed in enumerate(deeds) if deed is not None], default=len(rows))
    plant = Plant(works_of_rows(rows[:first]))
    for at in range(first, len(rows)):
        if deeds[at] is None or not _has_done(plant, deeds[at]):
            raise NoRow(at)
    return plant


def _has_done(plant, deed):
    try:
        do_deed(plant, deed)
    except (PanelError, Absent, Barred):
        return False
    return True


def do_deed(plant, deed):
    """Let a plant do a deed, its tuple, and tell what the plant tells."""
    word, things = deed[0], deed[1:]
    if word == "wait":
        return plant.wait(*things)
    if word == "change":
        point, worth, mark = things
        return plant.change(point, worth, mark=mark)
    if word == "send":
        return plant.send(*things)
    if word == "come":
        return plant.come(*things)
    if word == "lose":
        return plant.lose(*things)
    if word == "double":
        return plant.double(*things)
    if word == "fall":
        return plant.fall(*things)
    if word == "rise":
        return plant.rise(*things)
    return _do_in_room(plant, word, things)


def _do_in_room(plant, word, things):
    if word == "choose":
        return plant.choose(*things)
    if word == "take_over":
        return plant.take_over(*things)
    if word == "do":
        return plant.do(*things)
    if word == "again":
        return plant.again(*things)
    if word == "back":
        return plant.back(*things)
    if word == "hand":
        return plant.hand(*things)
    if word == "unhand":
        return plant.unhand(*things)
    if word == "shelve":
        return plant.shelve(*things)
    return plant.unshelve(*things)
