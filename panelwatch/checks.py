"""What makes no works is refused here, in the order in which it is due."""

from panelwatch.errors import (
    NoCauses, NoCommands, NoPoint, NoPoints, NoRelations, NoRule, NoRules, NoWorth, Ring, TooMany, Twice,
)
from panelwatch.shapes import (
    is_cause_shape, is_command_shape, is_point_shape, is_relation_shape, is_rule_shape, points_of_relation,
)
from panelwatch.words import MOST_LEVEL, is_list_of, is_whole

_MOST_PLACES = 3
_MOST_POINTS = 8
_MOST_RULES = 6
_MOST_CAUSES = 8
_MOST_COMMANDS = 4
_MOST_RELATIONS = 5


def by_name(rows):
    """Tell a dict from the names of some tuples, which stand first in them, to the tuples, in order."""
    return {row[0]: row for row in rows}


def is_worth_of(point, thing):
    """Tell whether a thing is a worth of a point, its tuple."""
    return is_whole(thing, 0, MOST_LEVEL if point[2] == "level" else 1)


def check_points(points):
    """Refuse what is no list of points of some works."""
    if not is_list_of(is_point_shape, points, 1, _MOST_POINTS):
        raise NoPoints(points)
    _check_each_once([name for name, _, _ in points])
    many = len({place for _, place, _ in points})
    if many > _MOST_PLACES:
        raise TooMany(many)


def _check_each_once(names):
    for at, name in enumerate(names):
        if name in names[:at]:
            raise Twice(name)


def check_rules(rules, points):
    """Refuse what is no list of rules over some points, a dict by their names."""
    if not is_list_of(is_rule_shape, rules, 0, _MOST_RULES):
        raise NoRules(rules)
    ahead = []
    for rule in rules:
        name, point = rule[0], rule[1]
        if name in ahead:
            raise Twice(name)
        if point not in points:
            raise NoPoint(point)
        ahead.append(name)


def check_causes(causes, rules):
    """Refuse what is no list of causes over some rules, a dict by their names."""
    if not is_list_of(is_cause_shape, causes, 0, _MOST_CAUSES):
        raise NoCauses(causes)
    ahead = []
    for cause, effect, _ in causes:
        for name in (cause, effect):
            if name not in rules:
                raise NoRule(name)
        if (cause, effect) in ahead:
            raise Twice((cause, effect))
        ahead.append((cause, effect))
    for name in rules:
        if _leads_to_itself(name, causes):
            raise Ring(name)


def _leads_to_itself(name, causes):
    reached = []
    steps = [name]
    while steps:
        step = steps.pop()
        for cause, effect, _ in causes:
            if cause == step and effect not in reached:
                reached.append(effect)
                steps.append(effect)
    return name in reached


def check_commands(commands, points):
    """Refuse what is no list of commands over some points, a dict by their names."""
    if not is_list_of(is_command_shape, commands, 0, _MOST_COMMANDS):
        raise NoCommands(commands)
    ahead = []
    for name, point, worth, locks in commands:
        if name in ahead:
            raise Twice(name)
        if point not in points:
            raise NoPoint(point)
        if not is_worth_of(points[point], worth):
            raise NoWorth(worth)
        _check_locks(locks, points[point][1], points)
        ahead.append(name)


def _check_locks(locks, place, points):
    # A place looks at its locks when it does a command, and knows its own points alone.
    for point, _, _ in locks:
        if point not in points or points[point][1] != place:
            raise NoPoint(point)


def check_relations(relations, points):
    """Refuse what is no list of relations over some points, a dict by their names."""
    if not is_list_of(is_relation_shape, relations, 0, _MOST_RELATIONS):
        raise NoRelations(relations)
    for relation in relations:
        names = points_of_relation(relation)
        for name in names:
            if name not in points:
                raise NoPoint(name)
        _check_each_once(names)
        if relation[0] == "gate" and points[names[1]][2] != "switch":
            raise NoPoint(names[1])
