"""Drills: rooms that go on from any moment of a log."""

from panelwatch.rooms import room_of
from panelwatch.words import check_whole


def drill(works, number, log, many=None):
    """Tell the room as it was behind the first rows of its log, all of them where many is None."""
    room = room_of(works, number, log)
    if many is None:
        return room
    check_whole(many, 0, len(log))
    return room_of(works, number, log[:many])
