"""False signs: which worths can't be together by the works, and which points may be false."""

from itertools import combinations

from panelwatch.errors import NoHistory, NoPicture
from panelwatch.histories import is_history, row_at
from panelwatch.shapes import points_of_relation
from panelwatch.words import MOST_LEVEL, check_time, check_whole, is_tuple
from panelwatch.works import check_works, relation_holds

_MOST_SUSPECTS = 2
_MOST_SIGNS = 100


def broken(works, picture):
    """Tell the numbers of the relations that don't hold in a picture, rising."""
    _check_picture(works, picture)
    return _broken_in(works.relations(), picture)


def _check_picture(works, thing):
    check_works(works)
    if not isinstance(thing, dict):
        raise NoPicture(thing)
    for name in thing:
        if not (works.has_point(name) and works.is_worth(name, thing[name])):
            raise NoPicture(thing)


def _broken_in(relations, picture):
    return [at for at, relation in enumerate(relations) if relation_holds(relation, picture) is False]


def suspects(works, picture, *, most=2):
    """Tell tuples (points, worths) of the sets of as few points as can be, by whose worths a picture is mended."""
    _check_picture(works, picture)
    check_whole(most, 0, _MOST_SUSPECTS)
    names = [name for name, _, _ in works.points() if name in picture]
    for many in range(most + 1):
        found = []
        for points in combinations(names, many):
            worths = _least_worths(works, picture, points)
            if worths is not None:
                found.append((points, worths))
        if found:
            return found
    return []


def _least_worths(works, picture, points):
    """Tell the least worths of some points by which no relation is broken in a picture, or None."""
    relations = works.relations()
    # First those that hang on none of the points, then, point by point, those that it is the last one to settle.
    settled = [[] for _ in range(len(points) + 1)]
    for relation in relations:
        names = points_of_relation(relation)
        settled[max([at + 1 for at, name in enumerate(points) if name in names], default=0)].append(relation)
    return _search(works, settled, dict(picture), points)


def _search(works, settled, tried, points):
    """Tell the least worths of some points, put to the test in a picture that may be changed, or None."""
    if _broken_in(settled[0], tried):
        return None
    if not points:
        return ()
    for worth in range(_most_worth(works, points[0]) + 1):
        tried[points[0]] = worth
        rest = _search(works, settled[1:], tried, points[1:])
        if rest is not None:
            return (worth, *rest)
    return None


def _most_worth(works, name):
    return MOST_LEVEL if works.point(name)[2] == "level" else 1


def shows_suspects(works, picture, thing, *, most=2):
    """Tell whether a thing shows the suspects, with any worths by which the picture is mended."""
    told = suspects(works, picture, most=most)
    if not isinstance(thing, (list, tuple)) or len(thing) != len(told):
        return False
    return all([_shows_one(works, picture, points, one) for (points, _), one in zip(told, thing)])


def _shows_one(works, picture, points, thing):
    if not is_tuple(thing, 2) or thing[0] != points or not is_tuple(thing[1], len(points)):
        return False
    mended = dict(picture)
    for name, worth in zip(points, thing[1]):
        if not works.is_worth(name, worth):
            return False
        mended[name] = worth
    return not _broken_in(works.relations(), mended)


def named(works, picture, *, most=2):
    """Tell the points that stand in each of the suspects' sets, in the works' order."""
    sets = [points for points, _ in suspects(works, picture, most=most)]
    return [name for name, _, _ in works.points() if sets and all([name in points for points in sets])]


def picture_at(works, histories, time):
    """Tell the worth of each point of which the last sign no later than a time is marked good."""
    _check_histories(works, histories)
    check_time(time)
    return _picture_in(works, histories, time)


def _check_histories(works, thing):
    check_works(works)
    if not isinstance(thing, dict):
        raise NoHistory(thing)
    for name in thing:
        if not (works.has_point(name) and _is_history_of(works, name, thing[name])):
            raise NoHistory(thing)


def _is_history_of(works, name, thing):
    if not is_history(thing) or len(thing) > _MOST_SIGNS:
        return False
    return all([works.is_worth(name, worth) for _, worth, _ in thing])


def _picture_in(works, histories, time):
    picture = {}
    for name, _, _ in works.points():
        row = row_at(histories.get(name, ()), time)
        if row is not None and row[2] == "good":
            picture[name] = row[1]
    return picture


def spans(works, histories, since, till):
    """Tell tuples (first, last, numbers) of the spans in which the same relations are broken."""
    _check_histories(works, histories)
    check_time(since)
    check_time(till)
    relations = works.relations()
    found = []
    for first, last in _stretches(histories, since, till):
        numbers = tuple(_broken_in(relations, _picture_in(works, histories, first)))
        if numbers:
            _add_span(found, (first, last, numbers))
    return found


def _stretches(histories, since, till):
    """Tell tuples (first, last) of the stretches of ticks between since and till in which no sign comes."""
    if till < since:
        return []
    times = {time for rows in histories.values() for time, _, _ in rows if since < time <= till}
    firsts = [since, *sorted(times)]
    return list(zip(firsts, [first - 1 for first in firsts[1:]] + [till]))


def _add_span(found, span):
    # A sign may change nothing in what is broken: then the span ahead goes on.
    first, last, numbers = span
    if found and found[-1][1] == first - 1 and found[-1][2] == numbers:
        first = found.pop()[0]
    found.append((first, last, numbers))
