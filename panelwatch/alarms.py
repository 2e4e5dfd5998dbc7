"""Alarms, raised and ended by rules."""

from panelwatch.errors import NoHearing, NoRule, NotNow, NoWorth
from panelwatch.hearing import Hearing
from panelwatch.histories import check_history, good_rows
from panelwatch.plainroom import PlainRoom
from panelwatch.shapes import is_level, is_rule_shape
from panelwatch.words import check_time, is_just
from panelwatch.works import is_beyond


class Watch:
    """A watch that keeps the events of one rule, worth by worth."""

    def __init__(self, rule):
        _check_rule(rule)
        self._rule = rule
        self._events = []
        # Since when the worth is beyond, while no event was raised of it.
        self._since = None
        self._worth = None
        self._time = None

    def __eq__(self, other):
        return (
            isinstance(other, Watch) and self._rule == other._rule and self._events == other._events
            and self._since == other._since and self._worth == other._worth and self._time == other._time
        )

    def __len__(self):
        return len(self._events)

    def hear(self, time, worth):
        """Take a worth that the point has from a time on; tell what came of it behind the last time."""
        check_time(time)
        if not is_level(worth):
            raise NoWorth(worth)
        if self._time is not None and time <= self._time:
            raise NotNow(time)
        told = self._wait_until(time - 1)
        self._time = time
        self._worth = worth
        told.extend(self._take())
        return told

    def go_on(self, time):
        """Go on to a time with the worth as it is; tell what came behind the last time."""
        check_time(time)
        if self._time is not None and time < self._time:
            raise NotNow(time)
        self._time = time
        return self._wait_until(time)

    def events(self):
        """Tell the events, tuples (raised, ended), rising."""
        return list(self._events)

    def state(self):
        """Tell a tuple (`stands`, raised), (`waits`, since) or (`quiet`, None)."""
        if self._stands():
            return "stands", self._events[-1][0]
        if self._since is not None:
            return "waits", self._since
        return "quiet", None

    def copied(self):
        """Tell a watch that stands just so, and goes its own way."""
        twin = Watch(self._rule)
        twin._events = list(self._events)
        twin._since = self._since
        twin._worth = self._worth
        twin._time = self._time
        return twin

    def _stands(self):
        return len(self._events) > 0 and self._events[-1][1] is None

    def _wait_until(self, time):
        if self._since is None or self._since + self._rule[5] > time:
            return []
        raised = self._since + self._rule[5]
        self._events.append((raised, None))
        self._since = None
        return [("raised", raised)]

    def _take(self):
        _, _, word, limit, _, _, _ = self._rule
        if self._stands():
            return self._rest()
        if not is_beyond(word, limit, self._worth):
            self._since = None
            return []
        if self._since is None:
            self._since = self._time
        return self._wait_until(self._time)

    def _rest(self):
        if not is_at_rest(self._rule, self._worth):
            return []
        raised, _ = self._events.pop()
        self._events.append((raised, self._time))
        return [("ended", self._time)]


def is_at_rest(rule, worth):
    """Tell whether a worth is at rest by a rule."""
    _, _, word, limit, back, _, _ = rule
    return worth <= limit - back if word == "above" else worth >= limit + back


def events(rule, history, till):
    """Tell the events of a rule and a history that were raised by a time, with their ends by then."""
    return _watched(rule, history, till).events()


def state_at(rule, history, at):
    """Tell the state of a rule and a history at a time."""
    return _watched(rule, history, at).state()


def _watched(rule, history, till):
    _check_rule(rule)
    check_history(history)
    check_time(till)
    watch = Watch(rule)
    for time, worth, _ in good_rows(history):
        if time <= till:
            watch.hear(time, worth)
    watch.go_on(till)
    return watch


def raised_by(hearing, name, till):
    """Tell the events of a rule that were raised by a time, by what has been heard by now."""
    _check_hearing(hearing)
    rule = hearing.works().rule(name)
    return events(rule, hearing.history(rule[1]), till)


def sure_events(hearing, name):
    """Tell the events of a rule by the last time at which all is known."""
    _check_hearing(hearing)
    rule = hearing.works().rule(name)
    known = hearing.known(hearing.works().point(rule[1])[1])
    if known is None or known == 0:
        return []
    return events(rule, hearing.history(rule[1]), known - 1)


def shows_events(rule, history, till, thing):
    """Tell whether a thing is the list of the events."""
    return is_just(thing, events(rule, history, till))


def _check_rule(thing):
    if not is_rule_shape(thing):
        raise NoRule(thing)


def _check_hearing(thing):
    if not (isinstance(thing, Hearing) or isinstance(thing, PlainRoom)):
        raise NoHearing(thing)
