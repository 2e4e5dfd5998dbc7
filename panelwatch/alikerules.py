"""Rules that are alike: which worths part two rules, and which pairs of stands show that none do."""

from panelwatch.alarms import is_at_rest
from panelwatch.errors import NoList, NoWorth, Unlike
from panelwatch.words import MOST_LEVEL, check_whole, is_one_of, is_tuple, is_whole
from panelwatch.works import check_works, is_beyond

_MOST_LENGTH = 200
_QUIET = ("quiet", 0)
_STANDS = ("stands", 0)
_BOTH_QUIET = (("quiet", 0), ("quiet", 0))


def parting(works, one, other, *, length=8):
    """Tell the shortest and least list of worths, at most so many, by which two rules part, or None."""
    _check_two(works, one, other)
    check_whole(length, 1, _MOST_LENGTH)
    rules = (works.rule(one), works.rule(other))
    telling = _telling_worths(works, rules)
    reached = {_BOTH_QUIET: True}
    level = [(_BOTH_QUIET, [])]
    # Level by level, each in the order of its worths: so the first list that parts is the least one, too.
    for _ in range(length):
        behind = []
        for pair, worths in level:
            for worth in telling:
                after = _step_both(rules, pair, worth)
                if after is None:
                    return [*worths, worth]
                if after not in reached:
                    reached[after] = True
                    behind.append((after, [*worths, worth]))
        level = behind
    return None


def step_of(works, rule, stand, worth):
    """Tell how a rule stands behind one tick more, and the word that comes of it, a tuple (stand, word)."""
    check_works(works)
    row = works.rule(rule)
    if not _is_stand(row, stand):
        raise NoList(stand)
    if not works.is_worth(row[1], worth):
        raise NoWorth(worth)
    return _step(row, stand, worth)


def alike_pairs(works, one, other):
    """Tell all pairs of stands to which worths lead from both quiet, rising, or None of rules that aren't alike."""
    _check_two(works, one, other)
    rules = (works.rule(one), works.rule(other))
    telling = _telling_worths(works, rules)
    reached = {_BOTH_QUIET: True}
    steps = [_BOTH_QUIET]
    while steps:
        pair = steps.pop()
        for worth in telling:
            after = _step_both(rules, pair, worth)
            if after is None:
                return None
            if after not in reached:
                reached[after] = True
                steps.append(after)
    return sorted(reached)


def shows_alike(works, one, other, thing):
    """Tell whether a thing is a list of pairs of stands that shows that two rules are alike."""
    _check_two(works, one, other)
    rules = (works.rule(one), works.rule(other))
    if not isinstance(thing, (list, tuple)) or not all([_is_pair(rules, pair) for pair in thing]):
        return False
    pairs = {pair: True for pair in thing}
    if _BOTH_QUIET not in pairs:
        return False
    telling = _telling_worths(works, rules)
    # None, of worths by which the words are unlike, is no pair.
    return all([_step_both(rules, pair, worth) in pairs for pair in pairs for worth in telling])


def _check_two(works, one, other):
    check_works(works)
    if works.rule(one)[1] != works.rule(other)[1]:
        raise Unlike(other)


def _is_stand(rule, thing):
    if not is_tuple(thing, 2):
        return False
    word, many = thing
    if word == "waits":
        return is_whole(many, 1, rule[5])
    return is_one_of(word, ("quiet", "stands")) and is_whole(many, 0, 0)


def _is_pair(rules, thing):
    return is_tuple(thing, 2) and all([_is_stand(rule, stand) for rule, stand in zip(rules, thing)])


def _telling_worths(works, rules):
    """Tell the least worth of each kind of worths that both rules take likewise, rising."""
    least = {}
    for worth in range(MOST_LEVEL + 1):
        if works.is_worth(rules[0][1], worth):
            kinds = [(is_beyond(rule[2], rule[3], worth), is_at_rest(rule, worth)) for rule in rules]
            least.setdefault(tuple(kinds), worth)
    return list(least.values())


def _step(rule, stand, worth):
    _, _, word, limit, _, hold, _ = rule
    state, many = stand
    if state == "stands":
        return (_QUIET, "ended") if is_at_rest(rule, worth) else (_STANDS, None)
    if not is_beyond(word, limit, worth):
        return _QUIET, None
    # With the first tick at which the worth is beyond, the hold is a number of ticks behind it.
    return (_STANDS, "raised") if many == hold else (("waits", many + 1), None)


def _step_both(rules, pair, worth):
    """Tell the pair of stands behind one tick more, or None where the words that come of it are unlike."""
    one, one_word = _step(rules[0], pair[0], worth)
    other, other_word = _step(rules[1], pair[1], worth)
    return (one, other) if one_word == other_word else None
