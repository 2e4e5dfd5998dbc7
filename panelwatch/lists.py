"""Lists of alarms: what stands, what is shelved, and what stands under what."""

from panelwatch.causes import chain_in, check_events
from panelwatch.errors import NoList
from panelwatch.words import check_time, check_whole, is_just, is_list, is_time, is_tuple
from panelwatch.works import check_rule, check_works

_MOST_SHELVES = 20
_MOST_HEADS = 99


def standing(works, events, at):
    """Tell the events that stand at a moment, tuples (name, raised), by rank, by raised, by name."""
    check_events(works, events)
    check_time(at)
    return _standing_in(works, events, at)


def _standing_in(works, events, at):
    found = []
    for name in events:
        for raised, ended in events[name]:
            if raised <= at and (ended is None or ended > at):
                found.append((works.rule(name)[6], raised, name))
    return [(name, raised) for _, raised, name in sorted(found)]


def is_shelved(works, shelves, name, at):
    """Tell whether a rule is shelved at a moment."""
    _check_asked(works, shelves, name, at)
    return _shelved_until(shelves, name, at) is not None


def back_at(works, shelves, name, at):
    """Tell the least time no earlier than a moment at which a rule isn't shelved."""
    _check_asked(works, shelves, name, at)
    until = _shelved_until(shelves, name, at)
    # Each step leaves a shelf behind, and every shelf ends at some time.
    while until is not None:
        at = until
        until = _shelved_until(shelves, name, at)
    return at


def _check_asked(works, shelves, name, at):
    check_works(works)
    _check_shelves(works, shelves)
    check_rule(works, name)
    check_time(at)


def _check_shelves(works, thing):
    if not is_list(thing, 0, _MOST_SHELVES) or not all([_is_shelf(works, shelf) for shelf in thing]):
        raise NoList(thing)


def _is_shelf(works, thing):
    if not is_tuple(thing, 3):
        return False
    name, since, end = thing
    return works.has_rule(name) and is_time(since) and is_time(end) and since < end


def _shelved_until(shelves, name, at):
    ends = [end for rule, since, end in shelves if rule == name and since <= at < end]
    return max(ends, default=None)


def alarm_list(works, events, at, *, shelves=(), most=9):
    """Tell a tuple (heads, more): the list of alarms at a moment, and how many heads are left out."""
    check_events(works, events)
    check_time(at)
    _check_shelves(works, shelves)
    check_whole(most, 1, _MOST_HEADS)
    listed = [
        event for event in _standing_in(works, events, at) if _shelved_until(shelves, event[0], at) is None
    ]
    heads = _heads_of(works, events, listed)
    return heads[:most], max(0, len(heads) - most)


def _heads_of(works, events, listed):
    under = {event: [] for event in listed}
    for event in listed:
        head = [one for one in chain_in(works, events, event) if one in under][-1]
        under[head].append(event)
    # A head's chain begins with itself, so just the heads stand under themselves.
    return [
        (name, raised, [other for other in under[(name, raised)] if other != (name, raised)])
        for name, raised in listed if under[(name, raised)]
    ]


def shows_list(works, events, at, thing, *, shelves=(), most=9):
    """Tell whether a thing is just the list of alarms at a moment."""
    return is_just(thing, alarm_list(works, events, at, shelves=shelves, most=most))
