"""First causes: under which event another one stands."""

from panelwatch.errors import NoEvents, NotThere
from panelwatch.words import check_time, is_just, is_time, is_tuple
from panelwatch.works import check_rule, check_works


def are_events(works, thing):
    """Tell whether a thing is events of some works, a dict from names of rules to lists of tuples (raised, ended)."""
    check_works(works)
    return isinstance(thing, dict) and all([works.has_rule(name) and _are_rising(thing[name]) for name in thing])


def _are_rising(thing):
    if not isinstance(thing, (list, tuple)) or not all([_is_event(event) for event in thing]):
        return False
    return all([_is_ahead(one, other) for one, other in zip(thing, thing[1:])])


def _is_event(thing):
    if not is_tuple(thing, 2):
        return False
    raised, ended = thing
    return is_time(raised) and (ended is None or (is_time(ended) and ended > raised))


def _is_ahead(one, other):
    return one[1] is not None and one[1] < other[0]


def check_events(works, thing):
    """Refuse what are no works, and what is no events of them."""
    if not are_events(works, thing):
        raise NoEvents(thing)


def _check_named(works, events, name, raised):
    check_events(works, events)
    check_rule(works, name)
    check_time(raised)
    if raised not in [begun for begun, _ in events.get(name, ())]:
        raise NotThere((name, raised))


def cause_of(works, events, name, raised):
    """Tell the cause of an event, a tuple (name, raised), or None."""
    _check_named(works, events, name, raised)
    return _cause_in(works, events, name, raised)


def _cause_in(works, events, name, raised):
    found = []
    for cause, _, within in works.causes_of(name):
        for begun, ended in events.get(cause, ()):
            if begun <= raised <= begun + within and (ended is None or ended > raised):
                found.append((begun, cause))
    if not found:
        return None
    begun, cause = min(found)
    return cause, begun


def chain_of(works, events, name, raised):
    """Tell the list of an event, its cause, the cause of that, and so on."""
    _check_named(works, events, name, raised)
    return chain_in(works, events, (name, raised))


def chain_in(works, events, event):
    """Tell the chain of an event that was found to be among what were found to be events."""
    chain = []
    while event is not None:
        chain.append(event)
        event = _cause_in(works, events, event[0], event[1])
    return chain


def first_cause(works, events, name, raised):
    """Tell the last one of an event's chain."""
    return chain_of(works, events, name, raised)[-1]


def shows_chain(works, events, name, raised, thing):
    """Tell whether a thing is the chain of an event."""
    return is_just(thing, chain_of(works, events, name, raised))
