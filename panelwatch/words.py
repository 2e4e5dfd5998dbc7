"""The kinds of things that are handed in and told, and what plain texts write."""

from panelwatch.errors import NoId, NoNumber, NoRoom, NoTerm, NoTime, NoTruth, TooMany

MOST_TIME = 9999
MOST_LEVEL = 63
MOST_TERM = 999
_MOST_NAME = 8
_MOST_ID = 999


def _is_number(thing):
    # True and False are ints to Python, but no whole numbers here.
    return isinstance(thing, int) and not isinstance(thing, bool)


def _check_number(thing):
    if not _is_number(thing):
        raise NoNumber(thing)


def is_whole(thing, low, high):
    """Tell whether a thing is a whole number from low to high, both counted."""
    _check_number(low)
    _check_number(high)
    return _is_number(thing) and low <= thing <= high


def is_name(thing):
    """Tell whether a thing is a text of one to eight small letters."""
    if not isinstance(thing, str) or not 1 <= len(thing) <= _MOST_NAME:
        return False
    return all(["a" <= sign <= "z" for sign in thing])


def is_time(thing):
    """Tell whether a thing is a time of the one clock."""
    return is_whole(thing, 0, MOST_TIME)


def is_mark(thing):
    """Tell whether a thing is one of the two marks of a worth."""
    return is_one_of(thing, ("good", "odd"))


def is_room(thing):
    """Tell whether a thing is the number of one of the two rooms."""
    return is_whole(thing, 0, 1)


def is_term(thing):
    """Tell whether a thing is a term."""
    return is_whole(thing, 0, MOST_TERM)


def is_id(thing):
    """Tell whether a thing is an id, a tuple (term, number)."""
    return is_tuple(thing, 2) and is_term(thing[0]) and is_whole(thing[1], 1, _MOST_ID)


def is_one_of(thing, words):
    """Tell whether a thing is one of some words."""
    return isinstance(thing, str) and thing in words


def is_tuple(thing, many):
    """Tell whether a thing is a tuple of just so many things."""
    return isinstance(thing, tuple) and len(thing) == many


def is_list(thing, least, most):
    """Tell whether a thing can be handed in as a list of so many things."""
    return isinstance(thing, (list, tuple)) and least <= len(thing) <= most


def is_list_of(fits, thing, least, most):
    """Tell whether a thing is such a list, and each thing in it fits by the test that is handed in."""
    return is_list(thing, least, most) and all([fits(part) for part in thing])


def is_rising(numbers):
    """Tell whether each of a list of numbers is greater than the one ahead of it."""
    return all([one < other for one, other in zip(numbers, numbers[1:])])


def is_just(thing, told):
    """Tell whether a thing is what is told, of whole numbers, texts and None in lists and tuples, kind by kind."""
    if isinstance(told, list):
        return isinstance(thing, list) and _are_just(thing, told)
    if isinstance(told, tuple):
        return isinstance(thing, tuple) and _are_just(thing, told)
    # True and False equal numbers to Python, and are none here.
    return not isinstance(thing, bool) and thing == told


def _are_just(things, told):
    return len(things) == len(told) and all([is_just(thing, part) for thing, part in zip(things, told)])


def check_time(thing):
    """Refuse what is no time."""
    if not is_time(thing):
        raise NoTime(thing)


def check_whole(thing, low, high):
    """Refuse what is no whole number from low to high."""
    if not is_whole(thing, low, high):
        raise NoNumber(thing)


def check_room(thing):
    """Refuse what is no room."""
    if not is_room(thing):
        raise NoRoom(thing)


def check_id(thing):
    """Refuse what is no id."""
    if not is_id(thing):
        raise NoId(thing)


def check_truth(thing):
    """Refuse what is neither True nor False."""
    if not isinstance(thing, bool):
        raise NoTruth(thing)


def room_of_term(term):
    """Tell the room to which a term belongs."""
    if not is_term(term):
        raise NoTerm(term)
    return term % 2


def next_term(room, term):
    """Tell the least term of a room that is greater than a term, the least of all with None."""
    check_room(room)
    if term is None:
        return room
    after = term + 1 if room_of_term(term) != room else term + 2
    if after > MOST_TERM:
        raise TooMany(MOST_TERM + 1)
    return after


def number_in(thing, *, low=0, high=MOST_TIME):
    """Tell the whole number from low to high that a thing writes plainly, or None."""
    _check_number(low)
    _check_number(high)
    if not isinstance(thing, str) or thing == "" or (thing[0] == "0" and len(thing) > 1):
        return None
    number = 0
    for sign in thing:
        if not "0" <= sign <= "9":
            return None
        number = number * 10 + ord(sign) - ord("0")
        # What is too great already only grows: a long text isn't worth its reading.
        if number > high:
            return None
    return number if number >= low else None


def words_in(thing):
    """Tell the list of a thing's words, where it is a text of words with just one blank between any two, or None."""
    if not isinstance(thing, str) or "\n" in thing:
        return None
    words = thing.split(" ")
    return None if "" in words else words
