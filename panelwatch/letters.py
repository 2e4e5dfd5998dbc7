"""Letters between places and rooms: what is one, and the signs that they bear."""

from panelwatch.errors import NoLetter, NoList, Unlike
from panelwatch.words import is_id, is_list, is_mark, is_one_of, is_term, is_time, is_tuple, is_whole
from panelwatch.works import check_point, check_works

_MOST_LETTERS = 40
_MOST_SIGNS = 12
_MOST_IN_LIST = 200


def is_sign(works, thing):
    """Tell whether a thing is a sign of some works, a tuple (time, point, worth, mark)."""
    check_works(works)
    if not is_tuple(thing, 4):
        return False
    time, point, worth, mark = thing
    return is_time(time) and works.has_point(point) and works.is_worth(point, worth) and is_mark(mark)


def is_signs(works, thing):
    """Tell whether a thing is a letter with signs of some works."""
    check_works(works)
    if not is_tuple(thing, 5) or thing[0] != "signs":
        return False
    _, place, number, time, rows = thing
    if not (works.has_place(place) and is_whole(number, 1, _MOST_LETTERS) and is_time(time)):
        return False
    if not isinstance(rows, tuple) or len(rows) > _MOST_SIGNS:
        return False
    if not all([_is_sign_at(works, place, row) for row in rows]):
        return False
    times = [row[0] for row in rows] + [time]
    return times == sorted(times)


def _is_sign_at(works, place, thing):
    return is_sign(works, thing) and thing[1] in works.points_at(place)


def is_order(works, thing):
    """Tell whether a thing is a letter by which a room orders something: do, back or term."""
    check_works(works)
    if is_tuple(thing, 3):
        word, ident, command = thing
        return word == "do" and is_id(ident) and works.has_command(command)
    if not is_tuple(thing, 2):
        return False
    word, what = thing
    return (word == "back" and is_id(what)) or (word == "term" and is_term(what))


def is_letter(works, thing):
    """Tell whether a thing is a letter of some works."""
    return is_signs(works, thing) or is_order(works, thing) or _is_terms(works, thing) or _is_answer(works, thing)


def _is_terms(works, thing):
    if not is_tuple(thing, 4):
        return False
    word, place, term, time = thing
    return word == "terms" and works.has_place(place) and is_term(term) and is_time(time)


def _is_answer(works, thing):
    if not is_tuple(thing, 6) or thing[0] != "answer":
        return False
    _, place, ident, word, term, time = thing
    if not (works.has_place(place) and is_id(ident) and is_one_of(word, ("done", "refused"))):
        return False
    return is_term(term) and is_time(time)


def rows_of(works, letter, point):
    """Tell the tuples (time, worth, mark) of a point in a letter with signs, in order."""
    check_signs(works, letter)
    check_point(works, point)
    return rows_in(letter, point)


def rows_in(letter, point):
    """Tell the rows of a point in what was found to be a letter with signs."""
    return [(time, worth, mark) for time, name, worth, mark in letter[4] if name == point]


def check_signs(works, letter):
    """Refuse what is no letter with signs."""
    if not is_signs(works, letter):
        raise NoLetter(letter)


def in_order(works, letters):
    """Tell a list of letters with signs by places and numbers, each once."""
    check_works(works)
    if not is_list(letters, 0, _MOST_IN_LIST):
        raise NoList(letters)
    for letter in letters:
        check_signs(works, letter)
    ahead = {}
    for letter in letters:
        _, place, number, _, _ = letter
        if ahead.setdefault((place, number), letter) != letter:
            raise Unlike(letter)
    return [ahead[key] for key in sorted(ahead)]
