"""The tuples of which works are made, each looked at by itself, whatever it names."""

from panelwatch.words import MOST_LEVEL, is_list_of, is_name, is_one_of, is_tuple, is_whole

_MOST_LOCKS = 4
_MOST_PARTS = 3
_MOST_HOLD = 99
_MOST_RANK = 3
_MOST_WITHIN = 999


def is_level(thing):
    """Tell whether a thing is a whole number that is a worth of some point."""
    return is_whole(thing, 0, MOST_LEVEL)


def is_point_shape(thing):
    """Tell whether a thing is a tuple (name, place, kind)."""
    if not is_tuple(thing, 3):
        return False
    name, place, kind = thing
    return is_name(name) and is_name(place) and is_one_of(kind, ("level", "switch"))


def is_rule_shape(thing):
    """Tell whether a thing is a tuple (name, point, word, limit, back, hold, rank)."""
    if not is_tuple(thing, 7):
        return False
    name, point, word, limit, back, hold, rank = thing
    if not (is_name(name) and is_lock_shape((point, word, limit))):
        return False
    return is_level(back) and is_whole(hold, 0, _MOST_HOLD) and is_whole(rank, 1, _MOST_RANK)


def is_cause_shape(thing):
    """Tell whether a thing is a tuple (cause, effect, within)."""
    if not is_tuple(thing, 3):
        return False
    cause, effect, within = thing
    return is_name(cause) and is_name(effect) and is_whole(within, 0, _MOST_WITHIN)


def is_lock_shape(thing):
    """Tell whether a thing is a tuple (point, word, limit)."""
    if not is_tuple(thing, 3):
        return False
    point, word, limit = thing
    return is_name(point) and is_one_of(word, ("above", "below")) and is_level(limit)


def is_command_shape(thing):
    """Tell whether a thing is a tuple (name, point, worth, locks)."""
    if not is_tuple(thing, 4):
        return False
    name, point, worth, locks = thing
    if not (is_name(name) and is_name(point) and is_level(worth)):
        return False
    return isinstance(locks, tuple) and is_list_of(is_lock_shape, locks, 0, _MOST_LOCKS)


def is_relation_shape(thing):
    """Tell whether a thing is a tuple ("same", a, b), ("sum", total, parts) or ("gate", flow, valve)."""
    if not is_tuple(thing, 3):
        return False
    word, first, rest = thing
    if not is_name(first):
        return False
    if word == "sum":
        return isinstance(rest, tuple) and is_list_of(is_name, rest, 1, _MOST_PARTS)
    return is_one_of(word, ("same", "gate")) and is_name(rest)


def points_of_relation(relation):
    """Tell the names of points that stand in a relation, a list, in order."""
    word, first, rest = relation
    return [first, *rest] if word == "sum" else [first, rest]
