"""Works: points, and the rules, causes, commands and relations over them."""

from panelwatch.checks import (
    by_name, check_causes, check_commands, check_points, check_relations, check_rules, is_worth_of,
)
from panelwatch.errors import NoCommand, NoPlace, NoPoint, NoRule, NoWorks
from panelwatch.shapes import points_of_relation
from panelwatch.words import is_name


class Works:
    """Some works, which never change."""

    def __init__(self, points, *, rules=(), causes=(), commands=(), relations=()):
        check_points(points)
        self._points = tuple(points)
        self._point_by_name = by_name(points)
        check_rules(rules, self._point_by_name)
        self._rules = tuple(rules)
        self._rule_by_name = by_name(rules)
        check_causes(causes, self._rule_by_name)
        self._causes = tuple(causes)
        check_commands(commands, self._point_by_name)
        self._commands = tuple(commands)
        self._command_by_name = by_name(commands)
        check_relations(relations, self._point_by_name)
        self._relations = tuple(relations)

    def __eq__(self, other):
        return (
            isinstance(other, Works) and self._points == other._points and self._rules == other._rules
            and self._causes == other._causes and self._commands == other._commands
            and self._relations == other._relations
        )

    def points(self):
        """Tell the tuples of all points."""
        return list(self._points)

    def rules(self):
        """Tell the tuples of all rules."""
        return list(self._rules)

    def causes(self):
        """Tell the tuples of all causes."""
        return list(self._causes)

    def commands(self):
        """Tell the tuples of all commands."""
        return list(self._commands)

    def relations(self):
        """Tell the tuples of all relations."""
        return list(self._relations)

    def places(self):
        """Tell the names of all places, rising."""
        return sorted({place for _, place, _ in self._points})

    def point(self, name):
        """Tell the tuple of a point."""
        if not self.has_point(name):
            raise NoPoint(name)
        return self._point_by_name[name]

    def rule(self, name):
        """Tell the tuple of a rule."""
        if not self.has_rule(name):
            raise NoRule(name)
        return self._rule_by_name[name]

    def command(self, name):
        """Tell the tuple of a command."""
        if not self.has_command(name):
            raise NoCommand(name)
        return self._command_by_name[name]

    def points_at(self, place):
        """Tell the names of the points of a place, in their order."""
        if not self.has_place(place):
            raise NoPlace(place)
        return [name for name, where, _ in self._points if where == place]

    def is_worth(self, point, thing):
        """Tell whether a thing is a worth of a point."""
        return is_worth_of(self.point(point), thing)

    def has_point(self, thing):
        """Tell whether a thing is a point's name."""
        return is_name(thing) and thing in self._point_by_name

    def has_place(self, thing):
        """Tell whether a thing is a place's name."""
        return is_name(thing) and thing in self.places()

    def has_rule(self, thing):
        """Tell whether a thing is a rule's name."""
        return is_name(thing) and thing in self._rule_by_name

    def has_command(self, thing):
        """Tell whether a thing is a command's name."""
        return is_name(thing) and thing in self._command_by_name

    def causes_of(self, rule):
        """Tell the tuples of the causes by which a rule is the effect."""
        if not self.has_rule(rule):
            raise NoRule(rule)
        return [row for row in self._causes if row[1] == rule]


def check_works(thing):
    """Refuse what are no works."""
    if not isinstance(thing, Works):
        raise NoWorks(thing)


def check_point(works, thing):
    """Refuse what is no point's name."""
    if not works.has_point(thing):
        raise NoPoint(thing)


def check_rule(works, thing):
    """Refuse what is no rule's name."""
    if not works.has_rule(thing):
        raise NoRule(thing)


def check_place(works, thing):
    """Refuse what is no place."""
    if not works.has_place(thing):
        raise NoPlace(thing)


def is_beyond(word, limit, worth):
    """Tell whether a worth is above, or below, a limit."""
    return worth > limit if word == "above" else worth < limit


def lock_holds(lock, worths):
    """Tell whether a lock holds by a dict from points to worths."""
    point, word, limit = lock
    return point in worths and is_beyond(word, limit, worths[point])


def relation_holds(relation, worths):
    """Tell whether a relation holds by a dict from points to worths, None where one of its points isn't in it."""
    for name in points_of_relation(relation):
        if name not in worths:
            return None
    word, first, rest = relation
    if word == "same":
        return worths[first] == worths[rest]
    if word == "sum":
        return worths[first] == sum([worths[name] for name in rest])
    return worths[rest] != 0 or worths[first] == 0
